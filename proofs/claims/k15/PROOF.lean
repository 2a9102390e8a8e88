import PyProof.Rows.All
import Wide.All
import OpenK.AllK
import Wide.FinOn
import KE.KDictList
import KE.KDictSum
import KE.KIsAll
import KE.KListMore
import KE.KRevIter
import Lean
import OpenK.KCls
import OpenK.KOwn
import OpenK.KRaise
import PyProof.AutoRange
import PyProof.AutoSeq1
import PyProof.DictWalks
import PyProof.EqAt
import PyProof.EqKinds
import PyProof.ExcArgsOwn
import PyProof.ExcBaseAll.ValueError
import PyProof.FactsAll.range_2
import PyProof.FactsAll.tuple_2
import PyProof.InstStore
import PyProof.InstStoreFacts
import PyProof.ListMulRoad
import PyProof.NeKinds
import PyProof.NsDelKeeps
import PyProof.ReprLen
import PyProof.ReprRoads
import PyProof.Rows.Range3
import PyProof.Rows.RegStrFacts
import PyProof.Rows.SortRunsK
import PyProof.Rows.SortShell
import PyProof.Rows.TupDisplay
import PyProof.TupleCall
import PyProof.WalkInts
import PyProof.ExcClass
import PySem.Challenge.RW_slidehall_k15_rows_taken_back
section
set_option Elab.async false
set_option linter.all false
set_option maxRecDepth 100000
set_option maxHeartbeats 0
namespace K15
open PySem PySem.Spec PyProof.Rows PySem.W
def tp (i:Nat):Stmt:=PySem.Challenge.pw_slidehall_k15_rows_taken_back.main.body.getD i (.Pass ⟨0,0,0,0⟩)
def dA (s:Stmt):Arguments:=match s with
 | .FunctionDef _ z _ _ _ _ _ _ _ _=>z
 | _=>⟨[],[],none,[],[],none,[]⟩
def dB (s:Stmt):List Stmt:=match s with
 | .FunctionDef _ _ z _ _ _ _ _ _ _=>z
 | _=>[]
def dS (s:Stmt):Scope:=match s with
 | .FunctionDef _ _ _ _ _ _ z _ _ _=>z
 | _=>{ kind:=.function,names:=[],isGenerator:=false,isCoroutine:=false }
def si:Stmt:=match tp 2 with
 | .ClassDef _ _ _ b _ _ _ _ _ _ _=>b.getD 0 (.Pass ⟨0,0,0,0⟩)
 | s=>s
def FnAt (K:Frag)(x:Str)(i:Nat):Prop:=∃ (f:Addr)(oc:Value)(od an:Option Addr)(osl:Array (Option Value))(kV doc pm cdv ct:Value),nsIn K mainGlobals x=some (some (.ref f)) ∧
 K.lookup f=some ⟨oc,od,.func (fnOf x x (dA (tp i)) (dB (tp i)) (dS (tp i)) .none kV doc pm an cdv ct),osl⟩/\codeIn K cdv x=true/\keepIn K (.ref f)=true
theorem FnAt.of {K:Frag}{x:Str}{i:Nat}{f:Addr}{oc:Value}{od an:Option Addr}{osl:Array (Option Value)}{kV doc pm cdv ct:Value}(a:nsIn K mainGlobals x=some (some (.ref f)):=by k_is)
  (l:K.lookup f=some ⟨oc,od,.func (fnOf x x (dA (tp i)) (dB (tp i)) (dS (tp i)) .none kV doc pm an cdv ct),osl⟩:=by k_is)(c:codeIn K cdv x=true:=by k_is)(k:keepIn K (.ref f)=true:=by k_is):FnAt K x i:=⟨f,oc,od,an,osl,kV,doc,pm,cdv,ct,a,l,c,k⟩
def nZ(K)(x):=nsIn K mainGlobals x=some none
theorem nZ.of{K:Frag}{x}(h:nsIn K mainGlobals x=some none:=by k_is):nZ K x:=h
inductive Facts(K:Frag):Prop
|mk    (_:FnAt K "_law_begin" 30)(_:FnAt K "_law_take" 31)(_:FnAt K "within" 9)(_:FnAt K "covered" 10)(_:FnAt K "holders" 11)(_:FnAt K "goes" 16)(_:FnAt K "opposite" 17)(_:FnAt K "one_further" 18)(_:FnAt K "met_by" 19)(_:FnAt K "movers_among" 20)(_:FnAt K "movers" 21)(_:FnAt K "behind_step" 22)(_:FnAt K "pushed" 23)(_:FnAt K "gone_along" 24)(_:FnAt K "back_of" 25)(_:FnAt K "played" 27)(_:FnAt K "taken_back" 28)(_:FnAt K "_law_covered" 32)(_:FnAt K "_law_room_of" 33)(_:FnAt K "_law_sized" 34)(_:FnAt K "_law_kind" 35)(_:FnAt K "_law_hall" 36)(_:FnAt K "_law_behind" 37)(_:FnAt K "_law_goes" 38)(_:FnAt K "_law_step" 39)(_:FnAt K "_law_pushed" 40)(_:FnAt K "_law_same" 41)(_:FnAt K "_law_told" 42)(_:FnAt K "_law_row" 43)(_:FnAt K "_law_stands" 44)(_:FnAt K "_law_spoilt" 45)(_:FnAt K "_law_due" 46)(_:FnAt K "_law_right" 47)(_:FnAt K "law" 48)(_:nZ K "len")(_:nZ K "divmod")(_:nZ K "list")(_:nZ K "tuple")(_:nZ K "int")(_:nZ K "bool")(_:nZ K "str")(_:nZ K "dict")(_:nZ K "isinstance")(_:nZ K "all")(_:nZ K "any")(_:nZ K "sum")(_:nZ K "zip")(_:nZ K "enumerate")(_:nZ K "range")(_:nZ K "sorted")(_:nZ K "min")(_:nZ K "max")(_:nZ K "abs")(_:nZ K "reversed"){d2:Tok}(e0:nsIn K mainGlobals "WALL"=some (some (.int (-1) d2))){c7:Tok}(d7:nsIn K mainGlobals "STRONG"=some (some (.int (1) c7))){d1:Tok}(e1:nsIn K mainGlobals "DULL"=some (some (.int (-1) d1))){a0 a5 a3 a4 a6:Addr}{b6 b2 b1 a9 a8:Option Addr}{b8 b3 b0 b4 a7:Array (Option Value)}{d0 c0 c1 c8 c4:Nat}{c2 c9 c5 b9 b5 b7 c3 c6:Tok}(d9:nsIn K mainGlobals "STEPS"=some (some (.ref a0)))(d5:K.lookup a0=some ⟨.type "tuple",b6,.seq #[.ref a5,.ref a3,.ref a4,.ref a6] d0,b8⟩)(d6:K.lookup a5=some ⟨.type "tuple",b2,.seq #[.int (1) c2,.int (0) c9] c0,b3⟩)(d8:K.lookup a3=some ⟨.type "tuple",b1,.seq #[.int (0) c5,.int (1) b9] c1,b0⟩)(d4:K.lookup a4=some ⟨.type "tuple",a9,.seq #[.int (-1) b5,.int (0) b7] c8,b4⟩)(d3:K.lookup a6=some ⟨.type "tuple",a8,.seq #[.int (0) c3,.int (-1) c6] c4,a7⟩){C1 C0 C2 C3 C4 C5 N N0 fi:Addr}{nm q nm0 q0:Str}{bs bs0 bm0 sub sub0:List Value}{hd0 ab ab0:Bool}{sn sn0:List Str}{col col0:Option Bool}{dd dd0:Option Addr}{k0 k1 k2 k3 k5 l0 l1 l2 l3 l5:Option Value}{id0:String}{odi ani:Option Addr}{osi:Array (Option Value)}{kVi doci pmi cdi cti:Value}(y1:nsIn K mainGlobals "Barred"=some (some (.ref C1)))(y0:nsIn K mainGlobals "HallError"=some (some (.ref C0)))(lk:K.lookup C1=some (excClassObj nm q C1 N bs [.ref C0,.type "ValueError",.type "Exception",.type "BaseException",.type "object"] true sn sub ab col dd k0 k1 k2 k3 k5 "ValueError.__new__"))(ok:nsOkIn K N=true)(ni:nsIn K N "__init__"=some (some (.ref fi)))(tl:tailIn K [.type "ValueError",.type "Exception",.type "BaseException",.type "object"] [.ref C0,.type "ValueError",.type "Exception",.type "BaseException",.type "object"]=true)(ga:findIn K (.ref C1) "__getattribute__"=some (some (.builtin "BaseException.__getattribute__")))(gt:findIn K (.ref C1) "__getattr__"=some none)(cl:findIn K (.ref C1) "__class__"=some (some (.builtin "object.__class__")))(sb:subIn K (.ref C1) (.type "BaseException")=some true)(so:subIn K (.ref C1) (.type "object")=some true)(sa:findIn K (.ref C1) "__setattr__"=some (some (.builtin "object.__setattr__")))(a1:findIn K (.ref C1) "push"=some none)(a2:findIn K (.ref C1) "step"=some none)(kc:keepIn K (.ref C1)=true)(lf:K.lookup fi=some ⟨.type "function",odi,.func (fnOf "__init__" "Barred.__init__" (dA si) (dB si) (dS si) .none kVi doci pmi ani cdi cti),osi⟩)(cf:codeIn K cdi "Barred.__init__"=true)(kf:keepIn K (.ref fi)=true)(lk0:K.lookup C0=some (excClassObj nm0 q0 C0 N0 bs0 bm0 hd0 sn0 sub0 ab0 col0 dd0 l0 l1 l2 l3 l5 id0))(hbe:(Value.ref C0::bm0).contains (.type "BaseException")=true)(hrd:readsIn K C0 (.type "type")=true)(hfc:findCls K (.ref C0) (.type "type") "__init__"=some (.val (.builtin "ValueError.__init__")))(hg:specialIn K (.ref C0) "__getattribute__"=some (some (.builtin "type.__getattribute__")))(y2:nsIn K mainGlobals "BadRow"=some (some (.ref C2)))(y3:nsIn K mainGlobals "NoRoom"=some (some (.ref C3)))(y4:nsIn K mainGlobals "NoStand"=some (some (.ref C4)))(y5:nsIn K mainGlobals "TooMany"=some (some (.ref C5)))(no:kitAny K (.ref C1) [.ref C2,.ref C3,.ref C4,.ref C5]=some false)(yv:nsIn K mainGlobals "ValueError"=some none)(vt:kitOne K (.ref C1) (.type "ValueError")=some true):Facts K
end K15
open PySem PySem.W PyProof.Rows PySem.Challenge
noncomputable def vw:Program:=view rw_slidehall_k15_rows_taken_back.row.toRowW.prog [1,2,3,4,5,6,8,9,10,11,13,14,15,16,17,18,19,20,21,22,23,24,25,27,28,30,31,32,33,34,35,36,37,38,39,40,41,42,43,44,45,46,47,48]
local macro_rules
 | `(tactic| o_head $H)=>`(tactic| (
  refine holds_open (q:=vw) (loose:=[]) (N:=6500) (Xt:=λs=>xlAt vw [] s && recOk rw_slidehall_k15_rows_taken_back.row.toRowW.records s) (XP:=XL vw []) (Yf:=Hook.obs $H) (Ya:=Hook.val $H) (YP:=Hook.says $H) ?hl (Hook.of $H) (Hook.keeps $H) (λs e=>xl_of s (Bool.and_eq_true_iff.mp e).1) XL.keeps (by rfl) (by rfl) (by rfl) (λs e=>recFacts_of (Bool.and_eq_true_iff.mp e).2) (by rfl) (by first | assumption | decide +kernel) (by decide +kernel) ⟨rfl,rfl,rfl,rfl,rfl,by decide +kernel⟩ ?hw ?hc
  (case hl=>intro w; kernel_rfl)
  (case hw=>w_witness2)))
theorem K15.early (W:∀ (q:Program) (loose:List Str) (XP:(Str->Option Value)->Heap->Prop) (YP:World->Heap->Prop) (d:DefRec) (K:Params->Frag),d.params.defaults = []->d.name = "law"->(∀ (w:World) (h:Heap),YP w h->(K w.params).In h)->(∀ P:Params,K15.Facts (K P)) →
  WalkO q loose XP YP rw_slidehall_k15_rows_taken_back.row.toRowW d [] (λf vs=>PySem.call f vs)):rw_slidehall_k15_rows_taken_back.Holds:=by
 w_on; o_law; k_head
 k_fill
 refine W _ _ _ _ _ _ rfl rfl (λw h Y=>kIn_of Y) ?F
 case F =>
  intro P
  exact .mk .of .of .of .of .of .of .of .of .of .of .of .of .of .of .of .of .of .of .of .of .of .of .of .of .of .of .of .of .of .of .of .of .of .of .of .of .of .of .of .of .of .of .of .of .of .of .of .of .of .of .of .of .of .of (by k_is) (by k_is) (by k_is) (by k_is) (by k_is) (by k_is) (by k_is) (by k_is) (by k_is) (by k_is) (by k_is) (by k_is) (by first | k_is | kernel_rfl) (by k_is) (by first | k_is | kernel_rfl) (by first | k_is | kernel_rfl) (by first | k_is | kernel_rfl) (by first | k_is | kernel_rfl) (by first | k_is | kernel_rfl) (by first | k_is | kernel_rfl) (by first | k_is | kernel_rfl) (by first | k_is | kernel_rfl) (by first | k_is | kernel_rfl) (by first | k_is | kernel_rfl) (by k_is) (by first | k_is | kernel_rfl) (by first | k_is | kernel_rfl) (by k_is) (by first | k_is | kernel_rfl) (by first | k_is | kernel_rfl) (by first | k_is | kernel_rfl) (by first | k_is | kernel_rfl) (by k_is) (by k_is) (by k_is) (by k_is) (by first | k_is | kernel_rfl) (by k_is) (by first | k_is | kernel_rfl)

end
noncomputable section
local macro_rules
 |`(command|open H in $c)=>`(command|set_option tactic.hygienic true in $c)
local macro_rules
 | `(tactic| and_intros)=>`(tactic| exact ⟨rfl,rfl,rfl,by decide +kernel,rfl,by decide +kernel,by decide +kernel⟩)
open PySem renaming wpAny_bind→Aa1,wpAny_pure→Ab1,wpAny_field→Ac1,wpAny_setField_rec→Ad1,wpAny_mono→Ae1,wpAny_truthy_bool→Af1,wpAny_call_entry→Ag1,wpAny_seqItems→Ah1
open List renaming length_map→Aa0,getElem?_eq_some_iff→Ac0,getElem?_eq_getElem→Ad0,mem_singleton→Ae0,size_toArray→Af0,getElem?_map→Ag0,mem_of_getElem?→Ai0,mem_cons→Aj0,mem_append_right→Am0,length_append→An0,getElem?_append_left→Aq0,getElem?_set_ne→At0,length_cons→Au0,map_append→Aw0,map_cons→Ax0,mem_append→Ay0,append_nil→Az0,take_add_one→Ba0,mem_append_left→Bd0,take_length→Be0,length_take→Bf0,mem_cons_of_mem→Bg0,not_mem_nil→Bi0,getElem?_of_mem→Bj0,getElem?_set_self→Bk0,getD_eq_getElem?_getD→Bl0,getElem?_eq_none_iff→Bm0,replicate_succ→Bn0,mem_map→Bo0,mem_cons_self→Br0,map_map→Bt0,length_set→Bu0,filterMap_cons→Bv0,cons_append→Bx0,pairwise_append→Ca0,append_assoc→Cb0,nodup_cons→Cc0,getElem?_concat_length→Cf0,flatten_cons→Ch0,any_eq_true→Cj0,find?_cons→Cl0,ext_getElem?→Cn0
open PySem.Heap renaming get?_push_of_some→Ab0,get?_push_size→Ak0,size_push→Bq0,get?_update_self→Ce0,get?_update_other→Cm0
open Nat renaming zero_add→Ah0,le_refl→Al0,lt_of_lt_of_le→Ap0,ne_of_lt→Ar0,le_trans→Av0,zero_le→Bb0,lt_irrefl→Bc0,ne_of_gt→By0
open Option renaming map_some→Ao0
open Int renaming toNat_natCast→As0
open Bool renaming false_ne_true→Bh0,false_eq_true→Bz0,eq_iff_iff→Cd0,and_self→Cg0,not_false→Co0
open Array renaming size_setIfInBounds→Bp0,getElem?_setIfInBounds_ne→Bs0,getElem?_eq_some_iff→Bw0,getElem?_eq_getElem→Ci0,length_toList→Ck0
open PySem PySem.Spec PyProof.Rows
open PySem.W (nsIn keepIn codeIn mg_of mg_none_of fnOf sortI eq_sortI)
def Ai1:type_of% @decide_eq_false:=@decide_eq_false
def Aj1:type_of% @decide_eq_true:=@decide_eq_true
def Ak1:type_of% @beq_self_eq_true:=@beq_self_eq_true
set_option Elab.async false
set_option linter.all false
set_option maxRecDepth 100000
set_option tactic.hygienic false
set_option bootstrap.genMatcherCode false
set_option maxHeartbeats 0
set_option compiler.extract_closed false
local macro_rules
 | `(tactic| omega)=>`(tactic| first | lia | omega +splitDisjunctions)
namespace L2
abbrev Key:=Sum Int Str
def ve2:Key->Value->Bool
 | .inl k,v=>Value.isInt k v
 | .inr x,v=>Value.isStrOf x v
def ue3(w:World):Key->Int
 | .inl k=>hashInt k
 | .inr x=>hashStr w x
theorem zf9:∀{k:Key} {v:Value},ve2 k v=true->(∃i t,k=Sum.inl i/\v=Value.int i t)\/(∃x t,k=Sum.inr x/\v=Value.str x t)
 | .inl i,v,h=>by
   obtain⟨t,e⟩:=Value.isInt_shape (k:=i) (v:=v) h;exact .inl ⟨i,t,rfl,e⟩
 | .inr x,v,h=>by
   obtain⟨t,e⟩:=Value.isStrOf_shape (x:=x) (v:=v) h;exact .inr ⟨x,t,rfl,e⟩
def xt3(i:Int)(t:Tok):ve2 (.inl i) (.int i t)=true:=by simp[ve2,Value.isInt]
def xt2(x:Str)(t:Tok):ve2 (.inr x) (.str x t)=true:=by simp[ve2,Value.isStrOf]
def wr8(a b:Int):decide ((Sum.inl a:Key)=Sum.inl b)=(a == b):=by
 by_cases e:a=b
 ·subst e;simp
 ·have h:¬(Sum.inl a:Key)=Sum.inl b:=λq=>e (Sum.inl.inj q)
  rw[Ai1 h];exact(beq_eq_false_iff_ne.mpr e).symm
def wr5(a b:Str):decide ((Sum.inr a:Key)=Sum.inr b)=decide (a=b):=by
 by_cases e:a=b
 ·subst e;simp
 ·have h:¬(Sum.inr a:Key)=Sum.inr b:=λq=>e (Sum.inr.inj q)
  rw[Ai1 h,Ai1 e]
def wr7(a:Int)(b:Str):decide ((Sum.inl a:Key)=Sum.inr b)=false:=Ai1 (λq=>nomatch q)
def wr6(a:Str)(b:Int):decide ((Sum.inr a:Key)=Sum.inl b)=false:=Ai1 (λq=>nomatch q)
def zf8(prog:Program)(w:World):PySem.KeyKind prog w Key where
 is:=ve2
 hash:=ue3 w
 inj:=λv a b ha hb=>by
  rcases zf9 ha with⟨i,t,rfl,rfl⟩ | ⟨x,t,rfl,rfl⟩
  ·rcases zf9 hb with⟨j,u,rfl,e⟩ | ⟨y,u,rfl,e⟩
   ·injection e with e1 _;rw[e1]
   ·exact nomatch e
  ·rcases zf9 hb with⟨j,u,rfl,e⟩ | ⟨y,u,rfl,e⟩
   ·exact nomatch e
   ·injection e with e1 _;rw[e1]
 byValue:=λk v h=>by
  rcases zf9 h with⟨i,t,rfl,rfl⟩ | ⟨x,t,rfl,rfl⟩<;>rfl
 pyHash:=λhv h=>by
  rcases zf9 hv with⟨i,t,rfl,rfl⟩ | ⟨x,t,rfl,rfl⟩
  ·exact wpAny_pyHash_int h
  ·exact wpAny_pyHash_str h
 eqBool:=λhu hv h=>by
  rcases zf9 hu with⟨i,t,rfl,rfl⟩ | ⟨x,t,rfl,rfl⟩
  ·rcases zf9 hv with⟨j,u,rfl,rfl⟩ | ⟨y,u,rfl,rfl⟩
   ·rw[wr8] at h;exact wpAny_eqBool_int h
   ·rw[wr7] at h;exact SeqAt.EqAt.int_str i t y u _ _ _ _ h
  ·rcases zf9 hv with⟨j,u,rfl,rfl⟩ | ⟨y,u,rfl,rfl⟩
   ·rw[wr6] at h;exact SeqAt.EqAt.str_int x t j u _ _ _ _ h
   ·rw[wr5] at h;exact wpAny_eqBool_str h
 «strs»:=λk x t v h=>by
  rcases zf9 h with⟨i,u,rfl,e⟩ | ⟨y,u,rfl,e⟩
  ·exact nomatch e
  ·injection e with e1 _
   subst e1;cases v<;>rfl
def xb4(prog:Program)(w:World)(i:Int)(t:Tok):(zf8 prog w).is (.inl i) (.int i t)=true:=xt3 i t
def xb3(prog:Program)(w:World)(x:Str)(t:Tok):(zf8 prog w).is (.inr x) (.str x t)=true:=xt2 x t
inductive V where
 | non | bl (b:Bool) | int (i:Int) | str (x:Str) | byt (b:Array UInt8) | flt (b:UInt64) | ref (a:Addr) | ty (n:String)
 deriving DecidableEq
def wv5:V->Value->Prop
 | .non,u=>u=Value.none
 | .bl b,u=>u=Value.bool b
 | .int i,u=>∃t,u=Value.int i t
 | .str x,u=>∃t,u=Value.str x t
 | .byt b,u=>∃t,u=Value.bytes b t
 | .flt b,u=>∃t,u=Value.float b t
 | .ref a,u=>u=Value.ref a
 | .ty n,u=>u=Value.type n
abbrev wv6:List V->List Value->Prop:=Paired wv5
def wv6.length{xs:List V}{us:List Value}(r:wv6 xs us):xs.length=us.length:=Paired.length r
theorem wv6.get:∀{xs:List V} {us:List Value} {i:Nat} {x:V},wv6 xs us->xs[i]?=some x->∃u,us[i]?=some u/\wv5 x u
 | _,_,_,_,.nil,e=>by simp at e
 | _,_,0,_,.cons r _,e=>by simp at e;subst e;exact⟨_,rfl,r⟩
 | _,_,i+1,x,.cons _ t,e=>by
   obtain⟨u,h1,h2⟩:=wv6.get (i:=i) (x:=x) t (by simpa using e);exact⟨u,by simpa using h1,h2⟩
theorem wv6.set(r:wv5 x u):∀{xs:List V} {us:List Value} (i:Nat),wv6 xs us->wv6 (xs.set i x) (us.set i u)
 | _,_,_,.nil=>.nil
 | _,_,0,.cons _ t=>.cons r t
 | _,_,i+1,.cons q t=>.cons q (wv6.set r i t)
theorem wv6.append:∀{xs ys:List V} {us ws:List Value},wv6 xs us->wv6 ys ws->wv6 (xs++ys) (us++ws)
 | _,_,_,_,.nil,s=>s
 | _,_,_,_,.cons r t,s=>.cons r (wv6.append t s)
theorem wv6.take:∀{xs:List V} {us:List Value} (n:Nat),wv6 xs us->wv6 (xs.take n) (us.take n)
 | _,_,0,_=>.nil
 | _,_,_+1,.nil=>.nil
 | _,_,n+1,.cons r t=>.cons r (wv6.take n t)
theorem wv6.drop:∀{xs:List V} {us:List Value} (n:Nat),wv6 xs us->wv6 (xs.drop n) (us.drop n)
 | _,_,0,r=>r
 | _,_,_+1,.nil=>.nil
 | _,_,n+1,.cons _ t=>wv6.drop n t
def vf7:Option V->Option Value->Prop
 | some v,some u=>wv5 v u
 | none,none=>True
 | _,_=>False
def KV{κ:Type}:List (κ×V)->List (κ×Value)->Prop:=Paired λ(p:κ×V) (q:κ×Value)=>p.1=q.1/\wv5 p.2 q.2
def kV:Key->V
 | .inl i=>.int i
 | .inr x=>.str x
inductive HO where
 /-- a list -/
 | lst (xs:List V)
 /-- a tuple (never changes) -/
 | tup (xs:List V)
 /-- a dict whose keys are ints and texts;one whose keys are tuples of ints and texts (the empty one is both) -/
 | dK (kvs:List (Key×V)) | dT (kvs:List (List Key×V))
 /-- a set of ints: its members,its size -/
 | set (S:Int->Bool) (n:Nat)
 /-- an instance of the class at C,its dict at dx,its attributes -/
 | ins (C dx:Addr) (fs:List (Str×V))
 /-- the dict of the instance at x -/
 | own (x:Addr)
 /-- the dict of an exception -/
 | xd (fs:List (Str×V))
 /-- a bound method,f of x -/
 | met (f x:Addr)
 /-- a range object lo,lo+1,.. below hi -/
 | rng (lo hi:Int)
 /-- a thing that is known to the object (the script;a dict while a loop walks it): read,never written while it is so -/
 | frz (o:Obj) (u:HO)
 /-- a code object's table -/
 | tbl (ps:Array Value)
 /-- any other thing,by what is true of its one object (a def of one's own: SetO a S n:=HO.ext λh=>..) -/
 | ext (φ:Heap->Prop)
abbrev Hp:=Addr->Option HO
def upd(H:Hp)(a:Addr)(o:HO):Hp:=λb=>if b=a then some o else H b
def zb3:upd H a o a=some o:=by unfold upd;rw[if_pos rfl]
def za9(h:b≠a):upd H a o b=H b:=by unfold upd;rw[if_neg h]
open H in
def upd_upd:upd (upd H a o) a u=upd H a u:=by
 funext b;unfold upd;split<;>rfl
def vh1{H:Hp}{a b:Addr}{o u:HO}(h:H a=some o)(h':H b=some u)(d:o≠u):a≠b:=by
 intro e;subst e;rw[h] at h';exact d (Option.some.inj h')
def zb1{H:Hp}{a b:Addr}{o:HO}(h:H a=some o)(h':H b=none):a≠b:=by
 intro e;subst e;rw[h] at h';cases h'
section
variable(P:Program)(w:World)
def NoD(h:Heap)(a:Addr):Prop:=∃o,h.get? a=some o/\o.dict=none
def ww4(H:Hp)(h:Heap)(a:Addr):HO->Prop
 | .lst xs=>xs.length<=sizeLine/\∃(its:List Value) (n:Nat),wv6 xs its/\h.get? a=some { cls:=.type "list",data:=.seq its.toArray n }
 | .tup xs=>xs.length<=sizeLine/\∃its:List Value,wv6 xs its/\IsTup h a its.toArray/\NoD h a
 | .dK kvs=>kvs.length<=sizeLine/\(a == sysModules)=false/\∃vs,KV kvs vs/\h.DictOf (zf8 P w) a vs
 | .dT kvs=>kvs.length<=sizeLine/\(a == sysModules)=false/\∃xs:List (List Key×Addr×Value),
  Paired (λ(p:List Key×V) (q:List Key×Addr×Value)=>p.1=q.1/\H q.2.1=some (.tup (p.1.map kV))/\wv5 p.2 q.2.2) kvs xs/\
  ∃o es ep,h.get? a=some o/\o.ExactDict/\o.data=.dict es ep/\es.toList=xs.map (entryOfKey (tupleKind (zf8 P w)))/\(xs.map (·.1)).Nodup
 | .set S n=>h.SetOf (intKind P w) a S n
 | .ins C dx fs=>H dx=some (.own a)/\fs.length<=1000/\dx≠a/\h.get? a=some (PySem.W.instObj C dx)/\
  ∃mA,h.Ns1 dx mA/\(∀f,vf7 (fs.lookup f) (mA f))/\PySem.Within mA (fs.map (·.1))
 | .own _=>∃o,h.get? a=some o
 | .xd fs=>∃mA,h.Ns1 a mA/\∀f,vf7 (fs.lookup f) (mA f)
 | .rng lo hi=>∃t u v,h.get? a=some { cls:=.type "range",data:=.fields #[.int lo t,.int hi u,.int 1 v] }
 | .frz o u=>h.get? a=some o/\ww4 H h a u
 | .tbl ps=>h.get? a=some { cls:=.none,data:=.fields ps }
 | .met f x=>h.get? a=some (PySem.W.methodObj (.ref f) (.ref x))
 | .ext φ=>φ h/\(∃o,h.get? a=some o)/\∀h1 h2:Heap,φ h1->(∀o,h1.get? a=some o->h2.get? a=some o)->φ h2
def HOk(H:Hp)(h:Heap):Prop:=∀a o,H a=some o->ww4 P w H h a o
end
section
variable{P:Program}{w:World}{H H':Hp}{h h':Heap}{a:Addr}{o:HO}
theorem ww4.lt(x:ww4 P w H h a o):a<h.objs.size:=by
 cases o with
 | lst xs=>obtain⟨_,_,_,_,e⟩:=x;exact Heap.lt_size e
 | tup xs=>obtain⟨_,_,_,p,_⟩:=x;exact p.lt
 | dK kvs=>obtain⟨_,_,_,_,o,_,_,e,_⟩:=x;exact Heap.lt_size e
 | dT kvs=>obtain⟨_,_,_,_,o,_,_,e,_⟩:=x;exact Heap.lt_size e
 | set S n=>obtain⟨o,_,_,_,e,_⟩:=x;exact Heap.lt_size e
 | ins C dx fs=>obtain⟨_,_,_,e,_⟩:=x;exact Heap.lt_size e
 | own y=>obtain⟨_,e⟩:=x;exact Heap.lt_size e
 | xd fs=>obtain⟨_,⟨_,_,_,e,_⟩,_⟩:=x;exact Heap.lt_size e
 | rng lo hi=>obtain⟨_,_,_,e⟩:=x;exact Heap.lt_size e
 | frz ob u=>obtain⟨e,_⟩:=x;exact Heap.lt_size e
 | tbl ps=>exact Heap.lt_size (show h.get? a=some _ from x)
 | met f y=>exact Heap.lt_size (show h.get? a=some _ from x)
 | ext φ=>obtain⟨_,⟨_,e⟩,_⟩:=x;exact Heap.lt_size e
theorem Paired.mapP{α β:Type}{F G:α->β->Prop}:∀{l₁:List α} {l₂:List β},Paired F l₁ l₂->(∀a b,F a b->G a b)->Paired G l₁ l₂
 | _,_,.nil,_=>.nil
 | _,_,.cons r t,f=>.cons (f _ _ r) (Paired.mapP t f)
theorem ww4.stay(x:ww4 P w H h a o)(k:∀b u,(b=a\/H b=some (.own a))->h.get? b=some u->h'.get? b=some u)(ho:∀b,H b=some (.own a)->H' b=some (.own a))(ht:∀b xs,H b=some (.tup xs)->H' b=some (.tup xs)):ww4 P w H' h' a o:=by
 induction o with
 | lst xs=>obtain⟨z,its,n,r,e⟩:=x;exact⟨z,its,n,r,k _ _ (.inl rfl) e⟩
 | tup xs=>obtain⟨z,its,r,⟨ob,e,c⟩,od,e2,c2⟩:=x;exact⟨z,its,r,⟨ob,k _ _ (.inl rfl) e,c⟩,od,k _ _ (.inl rfl) e2,c2⟩
 | dK kvs=>obtain⟨z,y,vs,r,ob,es,ep,e,c⟩:=x;exact⟨z,y,vs,r,ob,es,ep,k _ _ (.inl rfl) e,c⟩
 | dT kvs=>
   obtain⟨z,y,xs,r,ob,es,ep,e,c⟩:=x;exact⟨z,y,xs,Paired.mapP r λp q z=>⟨z.1,ht _ _ z.2.1,z.2.2⟩,ob,es,ep,k _ _ (.inl rfl) e,c⟩
 | set S n=>obtain⟨ob,es,ep,t,e,c⟩:=x;exact⟨ob,es,ep,t,k _ _ (.inl rfl) e,c⟩
 | ins C dx fs=>
   obtain⟨d,z,ne,e,mA,⟨od,es,ep,e2,c⟩,r⟩:=x;exact⟨ho _ d,z,ne,k _ _ (.inl rfl) e,mA,⟨od,es,ep,k _ _ (.inr d) e2,c⟩,r⟩
 | own y=>obtain⟨ob,e⟩:=x;exact⟨ob,k _ _ (.inl rfl) e⟩
 | xd fs=>obtain⟨mA,⟨od,es,ep,e,c⟩,r⟩:=x;exact⟨mA,⟨od,es,ep,k _ _ (.inl rfl) e,c⟩,r⟩
 | rng lo hi=>obtain⟨t,u,v,e⟩:=x;exact⟨t,u,v,k _ _ (.inl rfl) e⟩
 | frz ob u ih=>obtain⟨e,q⟩:=x;exact⟨k _ _ (.inl rfl) e,ih q⟩
 | tbl ps=>
   have e:h.get? a=some { cls:=.none,data:=.fields ps }:=x;show h'.get? a=some { cls:=.none,data:=.fields ps };exact k a _ (.inl rfl) e
 | met f y=>
   have e:h.get? a=some (PySem.W.methodObj (.ref f) (.ref y)):=x;show h'.get? a=some (PySem.W.methodObj (.ref f) (.ref y));exact k a _ (.inl rfl) e
 | ext φ=>obtain⟨p,⟨o,e⟩,st⟩:=x;exact⟨st _ _ p λo q=>k _ _ (.inl rfl) q,⟨o,k _ _ (.inl rfl) e⟩,st⟩
def HOk.lt(x:HOk P w H h)(e:H a=some o):a<h.objs.size:=(x a o e).lt
theorem HOk.fresh(x:HOk P w H h)(e:h.objs.size<=a):H a=none:=by
 cases q:H a with
 | none=>rfl
 | some u=>exact absurd (Ap0 (x.lt q) e) (Bc0 _)
def HOk.kept(x:HOk P w H h)(k:∀b u,h.get? b=some u->h'.get? b=some u):HOk P w H h':=λa o e=>
 (x a o e).stay (λb u _ q=>k b u q) (λ_ q=>q) λ_ _ q=>q
def HOk.laid(x:HOk P w H h)(k:∀b u,h.get? b=some u->h'.get? b=some u)(hp:h.objs.size<=a)(new:ww4 P w (upd H a o) h' a o):HOk P w (upd H a o) h':=λb u e=>by
 have hn:=x.fresh hp;by_cases hb:b=a
 ·subst hb;rw[zb3] at e;cases e;exact new
 ·rw[za9 hb] at e
  exact(x b u e).stay (λc v _ q=>k c v q) (λc q=>by rw[za9 (zb1 q hn)];exact q) λc xs q=>by rw[za9 (zb1 q hn)];exact q
end
def Rd(H:Hp)(a:Addr)(u:HO):Prop:=H a=some u\/∃o,H a=some (.frz o u)
def Rd.ok(r:Rd H a u)(x:HOk P w H h):ww4 P w H h a u:=by
 rcases r with r | ⟨o,r⟩
 ·exact x a u r
 ·obtain⟨_,q⟩:=x a _ r
  exact q
def Mut:Option HO->Prop
 | some (.lst _)=>True
 | some (.dK _)=>True
 | some (.dT _)=>True
 | some (.set _ _)=>True
 | some (.ins _ _ _)=>True
 | some (.ext _)=>True
 | _=>False
section
variable{P:Program}{w:World}{H:Hp}{h h':Heap}{x e:Addr}{o':HO}
def HOk.write(ok:HOk P w H h)(mu:Mut (H x))(he:e=x\/H e=some (.own x))(k:∀b u,b≠e->h.get? b=some u->h'.get? b=some u)(heo:∃u,h'.get? e=some u)(new:ww4 P w (upd H x o') h' x o'):HOk P w (upd H x o') h':=λb u q=>by
 have nown:∀c y,H c=some (.own y)->c≠x:=λc y r z=>by subst z;rw[r] at mu;exact mu
 have ntup:∀c xs,H c=some (.tup xs)->c≠x:=λc xs r z=>by subst z;rw[r] at mu;exact mu
 by_cases hb:b=x
 ·subst hb;rw[zb3] at q;cases q;exact new
 ·rw[za9 hb] at q
  by_cases hbe:b=e
  ·have q':H b=some (.own x):=by
    rcases he with z | z
    ·exact absurd (hbe.trans z) hb
    ·rw[hbe];exact z
   rw[q] at q';cases q';obtain⟨v,hv⟩:=heo;exact⟨v,by rw[hbe];exact hv⟩
  ·refine(ok b u q).stay (λc v hc r=>k c v ?_ r) (λc r=>by rw[za9 (nown c b r)];exact r) λc xs r=>by rw[za9 (ntup c xs r)];exact r
   rcases hc with rfl | hc
   ·exact hbe
   ·rintro rfl
    rcases he with z | z
    ·exact nown c b hc z
    ·rw[hc] at z;cases z;exact hb rfl
end
structure Un(fs ex:List Addr)(H H':Hp)(h h':Heap):Prop where
 keep:∀b o,h.get? b=some o->H b=none->b∉fs->b∉ex->h'.get? b=some o
 slot:∀b o,h.get? b=some o->H b=none->b∈fs->b∉ex->∃sl,h'.get? b=some { o with slots:=sl }
 free:∀b o,h.get? b=some o->H b=none->b∉ex->H' b=none
 there:∀b o,h.get? b=some o->b∉ex->∃o',h'.get? b=some o'
 tups:∀b xs,H b=some (.tup xs)->H' b=some (.tup xs)
 frzs:∀b o u,H b=some (.frz o u)->H' b=some (.frz o u)
 tbls:∀b ps,H b=some (.tbl ps)->∃more,H' b=some (.tbl (ps++more))
section
variable{fs fs' ex ex':List Addr}{H H1 H2:Hp}{h h1 h2 h':Heap}{a x e:Addr}{o:HO}
def Un.any(u:Un fs ex H H1 h h1){b:Addr}{ob:Obj}(q:h.get? b=some ob)(n:H b=none)(hx:b∉ex):∃sl,h1.get? b=some { ob with slots:=sl }:=by
 by_cases hb:b∈fs
 ·exact u.slot b ob q n hb hx
 ·exact⟨ob.slots,u.keep b ob q n hb hx⟩
def Un.kept(k:∀b u,h.get? b=some u->h'.get? b=some u):Un fs ex H H h h':=
 ⟨λb ob q _ _ _=>k b ob q,λb ob q _ _ _=>⟨ob.slots,k b ob q⟩,λ_ _ _ n _=>n,λb ob q _=>⟨ob,k b ob q⟩,λ_ _ q=>q,λ_ _ _ q=>q,λ_ ps q=>⟨#[],by rw[q];simp⟩⟩
def Un.refl:Un fs ex H H h h:=Un.kept λ_ _ q=>q
def Un.laid(k:∀b u,h.get? b=some u->h'.get? b=some u)(hp:h.objs.size<=a)(hn:H a=none):Un fs ex H (upd H a o) h h' where
 keep:=λb u q _ _ _=>k b u q
 slot:=λb u q _ _ _=>⟨u.slots,k b u q⟩
 free:=λb u q n _=>by rw[za9 (Ar0 (Ap0 (Heap.lt_size q) hp))];exact n
 there:=λb u q _=>⟨u,k b u q⟩
 tups:=λb xs q=>by rw[za9 (zb1 q hn)];exact q
 frzs:=λb u xs q=>by rw[za9 (zb1 q hn)];exact q
 tbls:=λb ps q=>⟨#[],by rw[za9 (zb1 q hn),q];simp⟩
def Un.write(mu:Mut (H x))(he:e=x\/H e=some (.own x))(k:∀b u,b≠e->h.get? b=some u->h'.get? b=some u)(heo:∃u,h'.get? e=some u):Un fs ex H (upd H x o) h h':=by
 have hx:∀b,H b=none->b≠x:=λb n z=>by subst z;rw[n] at mu;exact mu
 have hb:∀b,H b=none->b≠e:=λb n z=>by
  subst z;rcases he with r | r
  ·exact hx b n r
  ·rw[n] at r;cases r
 have hm:∀b u,H b=some u->¬Mut (some u)->b≠x:=λb u q nm z=>by subst z;rw[q] at mu;exact nm mu
 refine⟨λb u q n _ _=>k b u (hb b n) q,λb u q n _ _=>⟨u.slots,k b u (hb b n) q⟩,λb u q n _=>by rw[za9 (hx b n)];exact n,λb u q _=>?_,
  λb xs q=>by rw[za9 (hm b _ q λz=>z)];exact q,λb u xs q=>by rw[za9 (hm b _ q λz=>z)];exact q,λb ps q=>⟨#[],by rw[za9 (hm b _ q λz=>z),q];simp⟩⟩
 by_cases hbe:b=e
 ·subst hbe;exact heo
 ·exact⟨u,k b u hbe q⟩
end
def trk(h:Heap)(H:Hp):List Addr:=(List.range h.objs.size).filter λa=>(H a).isSome
def vj0(h:Heap)(H:Hp):Heap:=PySem.W.hideAll h (trk h H)
def xu0(h:Heap)(H:Hp):(vj0 h H).objs.size=h.objs.size:=PySem.W.hideAll_size _ _
def wc0(e:h.get? b=some o)(n:H b=none):(vj0 h H).get? b=some o:=
 PySem.W.hideAll_get _ e λhm=>by
  have q:(H b).isSome=true:=(List.mem_filter.mp hm).2;rw[n] at q;simp at q
theorem wj6(e:(vj0 h H).get? b=some o):h.get? b=some o/\H b=none:=by
 have e':h.get? b=some o:=PySem.W.of_hideAll (trk h H) e;refine⟨e',?_⟩;cases q:H b with
 | none=>rfl
 | some x=>
   have hm:b∈trk h H:=List.mem_filter.mpr ⟨List.mem_range.mpr (Heap.lt_size e'),by simp[q]⟩;have z:(vj0 h H).get? b=none:=PySem.W.hideAll_none (trk h H) hm;rw[z] at e;cases e
def wm1(g h:Heap)(L:Addr):List (Addr×Obj):=(List.range h.objs.size).filterMap λa=>if a=L\/(g.get? a).isSome=true then none else (h.get? a).map λo=>(a,o)
def wx2(g h:Heap)(L d:Addr):List (Addr×Obj):=(wm1 g h L).filter λp=>decide (p.1≠d)
structure Mod(K:PySem.W.Frag)(mg:Str->Option Value)(base:Heap):Prop where
 kin:K.In base
 glob:base.Ns mainGlobals mg
 blt:∃mb,base.Ns builtinsNs mb/\∀x:Str,x≠"__name__"->mb x=bootBuiltins x
 nolimit:base.NoLimit
structure Cx where
 prog:Program
 w:World
 K:PySem.W.Frag
 mg:Str->Option Value
 base:Heap
 A:Around
 N:List Str
 s₀:Shared
 H₀:Hp
 env:Env
 outer:List Env
 stack:List Env
 ex:List Addr
 fn:Str->Bool
 calm:Bool
 pn:List (Addr×Obj)
 xe:Value->Shared->Prop
def frs(l:List Env):List Addr:=l.filterMap (·.frame)
abbrev Cx.fs(X:Cx):List Addr:=frs X.outer
def Vis(sc:Scope)(x:Str):Prop:=sc.names.lookup x=some .local\/sc.names.lookup x=some .cell\/sc.names.lookup x=some .free
def Loc(sc:Scope)(x:Str):Prop:=sc.names.lookup x=some .local\/sc.names.lookup x=some .cell
def uf6(env:Env)(h:Heap)(m:Str->Option Value)(x:Str)(u:Value):Prop:=
 (env.kindOf x=some .local/\m x=some u)\/((env.kindOf x=some .cell\/env.kindOf x=some .free)/\∃c,env.cells.lookup x=some c/\h.IsCell c (some u))
structure Cx.Ok(X:Cx):Prop where
 mod:Mod X.K X.mg X.base
 kind:X.env.scope.kind=.function
 glob:X.env.globals=mainGlobals
 blt:X.env.builtins=builtinsNs
 above:X.s₀.heap.objs.size<=X.env.locals
 inj:∀x y c,X.env.cells.lookup x=some c->X.env.cells.lookup y=some c->x=y
 has:∀x,(X.env.kindOf x=some .cell\/X.env.kindOf x=some .free)->∃c,X.env.cells.lookup x=some c
 cab:∀x c,X.fn x=true->X.env.cells.lookup x=some c->X.s₀.heap.objs.size<=c
 hd:X.calm=true->X.A.handled=none
 frames:X.A.frames=some X.stack
 stk:X.stack=X.outer\/(X.stack=X.env::X.outer/\X.env.frame=some X.env.locals)
 exf:∀b∈X.ex,b≠X.env.locals/\∀x c,X.env.cells.lookup x=some c->c≠b
 bs:∀b o,X.base.get? b=some o->X.s₀.heap.get? b=some o/\X.H₀ b=none
 bsz:X.base.objs.size<=X.s₀.heap.objs.size
 noex:∀b o,X.base.get? b=some o->b∉X.ex
 exfs:∀b∈X.ex,b∉X.fs
 funs:X.s₀.heap.FunFrames X.base X.outer
 frf:∀b∈X.fs,X.H₀ b=none
structure Inv(X:Cx)(A3:List (Addr×Obj))(σ:List (Option V))(H:Hp)(s:Shared):Prop where
 ok:X.Ok
 os:s.os=X.s₀.os
 bare:AllBare s.gens
 base:Un X.fs X.ex X.H₀ H X.s₀.heap s.heap
 loc:∃m,s.heap.Ns X.env.locals m/\∀(i:Nat) (x:Str) (v:V),X.N[i]?=some x->σ[i]?=some (some v)->Vis X.env.scope x->∃u,wv5 v u/\uf6 X.env s.heap m x u
 cell:∀x c,X.env.cells.lookup x=some c->∃v,s.heap.IsCell c v
 free:H X.env.locals=none
 freeC:∀x c,X.env.cells.lookup x=some c->H c=none
 pin:∀p∈X.pn++A3,s.heap.get? p.1=some p.2/\H p.1=none/\p.1≠X.env.locals/\p.1∉X.fs/\∀v,p.2.data≠.cell v
 hok:HOk X.prog X.w H s.heap
 len:σ.length=X.N.length
section
variable{X:Cx}{A3:List (Addr×Obj)}{σ:List (Option V)}{H H':Hp}{s:Shared}{h':Heap}
def Cx.Ok.nofr(ok:X.Ok)(e:X.base.get? b=some o):b∉X.fs:=λhb=>by
 have:=(ok.funs.mem hb).1;rw[e] at this;cases this
def Inv.bs(I:Inv X A3 σ H s):∀b o,X.base.get? b=some o->s.heap.get? b=some o/\H b=none:=λb o e=>
 ⟨I.base.keep b o (I.ok.bs b o e).1 (I.ok.bs b o e).2 (I.ok.nofr e) (I.ok.noex b o e),I.base.free b o (I.ok.bs b o e).1 (I.ok.bs b o e).2 (I.ok.noex b o e)⟩
def Inv.bk(I:Inv X A3 σ H s):∀b o,X.base.get? b=some o->s.heap.get? b=some o:=λb o e=>(I.bs b o e).1
def Inv.mod(I:Inv X A3 σ H s):Mod X.K X.mg X.base:=I.ok.mod
def Inv.kIn(I:Inv X A3 σ H s):X.K.In s.heap:=I.ok.mod.kin.keeps I.bk
def Inv.fr(I:Inv X A3 σ H s):∃m,Fr X.base X.env.locals s.heap m:=
 let ⟨m,hn,_⟩:=I.loc
 ⟨m,hn,I.bk,Av0 I.ok.bsz I.ok.above⟩
def Inv.lt(I:Inv X A3 σ H s):X.env.locals<s.heap.objs.size:=let ⟨_,hn,_⟩:=I.loc;hn.lt
def Inv.sz(I:Inv X A3 σ H s):X.s₀.heap.objs.size<=s.heap.objs.size:=Av0 I.ok.above (Nat.le_of_lt I.lt)
def Inv.nofs(I:Inv X A3 σ H s)(h:s.heap.objs.size<=a):a∉X.fs:=λhb=>by
 obtain⟨_,o,ho,_⟩:=I.ok.funs.mem hb;exact absurd (Ap0 (Heap.lt_size ho) (Av0 I.sz h)) (Bc0 _)
def Inv.cne(I:Inv X A3 σ H s):∀x c,X.env.cells.lookup x=some c->c≠X.env.locals:=λx c e z=>by
 obtain⟨v,o,ho,hd⟩:=I.cell x c e;obtain⟨m,⟨o',es,ep,ho',hd',_⟩,_⟩:=I.loc;rw[z,ho'] at ho;cases ho;rw[hd'] at hd;cases hd
def Inv.funs(I:Inv X A3 σ H s):s.heap.FunFrames X.base X.outer:=by
 have all:∀(l:List Env),(∀b∈frs l,b∈X.fs)->X.s₀.heap.FunFrames X.base l->s.heap.FunFrames X.base l:=by
  intro l;induction l with
  | nil=>intro _ _;trivial
  | cons env r ih=>
    intro hs hl;obtain⟨hk,⟨L,o,hf,hn,ho,hd⟩,hr⟩:=hl;have hL:L∈X.fs:=hs L (by unfold frs;rw[Bv0,hf];exact Br0);obtain⟨sl,e⟩:=I.base.slot L o ho (I.ok.frf L hL) hL λz=>I.ok.exfs L z hL
    exact⟨hk,⟨L,_,hf,hn,e,hd⟩,ih (λb hb=>hs b (by unfold frs;rw[Bv0,hf];exact Bg0 _ hb)) hr⟩
 exact all X.outer (λ_ hb=>hb) I.ok.funs
def Inv.stack(I:Inv X A3 σ H s):s.heap.FunFrames X.base X.stack:=by
 rcases I.ok.stk with e | ⟨e,hf⟩
 ·rw[e];exact I.funs
 ·rw[e]
  obtain⟨m,hn,_⟩:=I.loc;refine .cons (by rw[I.ok.kind];decide) hf hn ?_ I.funs;exact Heap.get?_none_of_le (Av0 I.ok.bsz I.ok.above)
def Inv.stkSub(I:Inv X A3 σ H s):∀b∈frs X.stack,b∈X.env.locals::X.fs:=λb hb=>by
 rcases I.ok.stk with e | ⟨e,hf⟩
 ·rw[e] at hb;exact Bg0 _ hb
 ·rw[e] at hb
  unfold frs at hb;rw[Bv0,hf] at hb;exact hb
def Inv.stkFree(I:Inv X A3 σ H s):∀b∈frs X.stack,H b=none:=λb hb=>by
 rcases Aj0.mp (I.stkSub b hb) with e | hb
 ·rw[e];exact I.free
 ·obtain⟨_,o,ho,_⟩:=I.ok.funs.mem hb
  exact I.base.free b o ho (I.ok.frf b hb) λz=>I.ok.exfs b z hb
def Inv.step{g':Array GenState}{t':Nat}{d':Drawn}{ch:List Addr}(I:Inv X A3 σ H s)(hch:∀b∈ch,(b∈X.ex\/X.s₀.heap.objs.size<=b)/\b≠X.env.locals/\(∀x c,X.env.cells.lookup x=some c->c≠b)/\∀p∈X.pn++A3,p.1≠b)(keep:∀b o,b≠X.env.locals->b∉X.fs->b∉ch->s.heap.get? b=some o->H b=none->h'.get? b=some o)(slot:∀b o,b≠X.env.locals->b∈X.fs->b∉ch->s.heap.get? b=some o->H b=none->∃sl,h'.get? b=some { o with slots:=sl })(free:∀b o,b∉ch->s.heap.get? b=some o->H b=none->H' b=none)(there:∀b o,b∉ch->s.heap.get? b=some o->∃o',h'.get? b=some o')(tups:∀b xs,H b=some (.tup xs)->H' b=some (.tup xs))(frzs:∀b o u,H b=some (.frz o u)->H' b=some (.frz o u))(tbls:∀b ps,H b=some (.tbl ps)->∃more,H' b=some (.tbl (ps++more)))(ns:∀m,s.heap.Ns X.env.locals m->h'.Ns X.env.locals m)(hok:HOk X.prog X.w H' h')(hg:AllBare g') :
 Inv X A3 σ H' { s with heap:=h',gens:=g',drawn:=d',toks:=t' }:=by
 have neL:∀b o,X.s₀.heap.get? b=some o->b≠X.env.locals:=λb o e=>Ar0 (Ap0 (Heap.lt_size e) I.ok.above)
 have neC:∀b o,X.s₀.heap.get? b=some o->b∉X.ex->b∉ch:=λb o e hx hb=>by
  rcases (hch b hb).1 with z | z
  ·exact hx z
  ·exact absurd (Ap0 (Heap.lt_size e) z) (Bc0 _)
 have cellK:∀x c,X.env.cells.lookup x=some c->∀v,s.heap.IsCell c v->h'.IsCell c v:=λx c e v hI1=>by
  obtain⟨o,ho,hd⟩:=hI1;have nch:c∉ch:=λz=>(hch c z).2.2.1 x c e rfl
  by_cases hc:c∈X.fs
  ·obtain⟨sl,q⟩:=slot c o (I.cne x c e) hc nch ho (I.freeC x c e)
   exact⟨_,q,hd⟩
  ·exact⟨o,keep c o (I.cne x c e) hc nch ho (I.freeC x c e),hd⟩
 refine⟨I.ok,I.os,hg,⟨λb o e n hb hx=>?_,λb o e n hb hx=>?_,λb o e n hx=>?_,λb o e hx=>?_,λb xs e=>tups b xs (I.base.tups b xs e),λb o xs e=>frzs b o xs (I.base.frzs b o xs e),λb ps e=>?_⟩,?_,λx c e=>?_,?_,λx c e=>?_,λp hp=>?_,hok,I.len⟩
 ·exact keep b o (neL b o e) hb (neC b o e hx) (I.base.keep b o e n hb hx) (I.base.free b o e n hx)
 ·obtain⟨sl,e1⟩:=I.base.slot b o e n hb hx
  obtain⟨sl',e2⟩:=slot b _ (neL b o e) hb (neC b o e hx) e1 (I.base.free b o e n hx);exact⟨sl',e2⟩
 ·obtain⟨o',e1⟩:=I.base.there b o e hx
  exact free b o' (neC b o e hx) e1 (I.base.free b o e n hx)
 ·obtain⟨o',e1⟩:=I.base.there b o e hx
  exact there b o' (neC b o e hx) e1
 ·obtain⟨m1,e1⟩:=I.base.tbls b ps e
  obtain⟨m2,e2⟩:=tbls b _ e1;exact⟨m1++m2,by rw[e2,Array.append_assoc]⟩
 ·obtain⟨m,hn,hl⟩:=I.loc
  refine⟨m,ns m hn,λi x v e1 e2 e3=>?_⟩;obtain⟨u,r,l⟩:=hl i x v e1 e2 e3;refine⟨u,r,?_⟩;rcases l with l | ⟨k,c,e,z⟩
  ·exact .inl l
  ·exact .inr ⟨k,c,e,cellK x c e _ z⟩
 ·obtain⟨v,z⟩:=I.cell x c e
  exact⟨v,cellK x c e v z⟩
 ·obtain⟨m,⟨o,_,_,ho,_⟩,_⟩:=I.loc
  exact free _ o (λz=>(hch _ z).2.1 rfl) ho I.free
 ·obtain⟨v,o,ho,hd⟩:=I.cell x c e
  exact free c o (λz=>(hch c z).2.2.1 x c e rfl) ho (I.freeC x c e)
 ·obtain⟨e,n,ne,nf,d⟩:=I.pin p hp
  have nch:p.1∉ch:=λz=>(hch p.1 z).2.2.2 p hp rfl
  exact⟨keep p.1 p.2 ne nf nch e n,free p.1 p.2 nch e n,ne,nf,d⟩
def Inv.un{t':Nat}(I:Inv X A3 σ H s)(u:Un X.fs [] H H' s.heap h')(hok:HOk X.prog X.w H' h'):Inv X A3 σ H' { s with heap:=h',toks:=t' }:=by
 obtain⟨m,⟨o,es,ep,ho,r⟩,_⟩:=id I.loc;obtain⟨sl,hL⟩:=u.any ho I.free (by simp);exact I.step (g':=s.gens) (d':=s.drawn) (ch:=[]) (λ_ z=>nomatch z) (λb o _ hb _ e n=>u.keep b o e n hb (by simp)) (λb o _ hb _ e n=>u.slot b o e n hb (by simp)) (λb o _ e n=>u.free b o e n (by simp)) (λb o _ e=>u.there b o e (by simp)) u.tups u.frzs u.tbls (λm' hm=>by
  obtain⟨o',es',ep',ho',r'⟩:=hm;rw[ho] at ho';cases ho';exact⟨_,es',ep',hL,r'⟩) hok I.bare
def Inv.call{g':Array GenState}{t':Nat}{d':Drawn}{ch:List Addr}(I:Inv X A3 σ H s)(u:Un (frs X.stack) ch H H' s.heap h')(hok:HOk X.prog X.w H' h')(hg:AllBare g')(hch:∀b∈ch,(b∈X.ex\/X.s₀.heap.objs.size<=b)/\b≠X.env.locals/\(∀x c,X.env.cells.lookup x=some c->c≠b)/\∀p∈X.pn++A3,p.1≠b) :
 Inv X A3 σ H' { s with heap:=h',gens:=g',drawn:=d',toks:=t' }:=by
 obtain⟨m,⟨o,es,ep,ho,r⟩,_⟩:=id I.loc;obtain⟨sl,hL⟩:=u.any ho I.free λz=>(hch _ z).2.1 rfl
 exact I.step (ch:=ch) hch (λb o hL hb hc e n=>u.keep b o e n (λz=>(Aj0.mp (I.stkSub b z)).elim hL hb) hc) (λb o _ _ hc e n=>u.any e n hc) (λb o hc e n=>u.free b o e n hc) (λb o hc e=>u.there b o e hc) u.tups u.frzs u.tbls (λm' hm=>by
  obtain⟨o',es',ep',ho',r'⟩:=hm;rw[ho] at ho';cases ho';exact⟨_,es',ep',hL,r'⟩) hok hg
def Inv.turned{t':Nat}{it:Addr}(I:Inv X A3 σ H s)(k:∀b o,b≠it->s.heap.get? b=some o->h'.get? b=some o)(hn:H it=none)(hL:it≠X.env.locals)(h1:it∈X.ex\/X.s₀.heap.objs.size<=it)(h2:∀x c,X.env.cells.lookup x=some c->c≠it)(h3:∀p∈X.pn++A3,p.1≠it):Inv X A3 σ H { s with heap:=h',toks:=t' }:=by
 have nit:∀b u,H b=some u->b≠it:=λb u e z=>by rw[z,hn] at e;cases e
 refine I.step (g':=s.gens) (d':=s.drawn) (ch:=[it]) (λb hb=>?_) (λb o _ _ hc e _=>k b o (λz=>hc (by simp[z])) e) (λb o _ _ hc e _=>⟨o.slots,k b o (λz=>hc (by simp[z])) e⟩) (λ_ _ _ _ n=>n)
  (λb o hc e=>⟨o,k b o (λz=>hc (by simp[z])) e⟩) (λ_ _ e=>e) (λ_ _ _ e=>e) (λb ps e=>⟨#[],by rw[e];simp⟩) (λm hm=>?_) (λb u e=>?_) I.bare
 ·have e:b=it:=by simpa using hb
  subst e;exact⟨h1,hL,h2,h3⟩
 ·obtain⟨o,es,ep,ho,r⟩:=hm
  exact⟨o,es,ep,k _ o (Ne.symm hL) ho,r⟩
 ·refine(I.hok b u e).stay (λc v hc q=>k c v ?_ q) (λ_ q=>q) λ_ _ q=>q
  rcases hc with z | z
  ·rw[z];exact nit b u e
  ·exact nit c _ z
def Inv.tok(I:Inv X A3 σ H s)(t:Nat):Inv X A3 σ H { s with toks:=t }:=I.un (h':=s.heap) (t':=t) Un.refl I.hok
def Inv.kept{t':Nat}(I:Inv X A3 σ H s)(k:∀b u,s.heap.get? b=some u->h'.get? b=some u):Inv X A3 σ H { s with heap:=h',toks:=t' }:=I.un (Un.kept k) (I.hok.kept k)
def Inv.laid{a:Addr}{o:HO}{t':Nat}(I:Inv X A3 σ H s)(k:∀b u,s.heap.get? b=some u->h'.get? b=some u)(hp:s.heap.objs.size<=a)(new:ww4 X.prog X.w (upd H a o) h' a o) :
 Inv X A3 σ (upd H a o) { s with heap:=h',toks:=t' }:=I.un (Un.laid k hp (I.hok.fresh hp)) (I.hok.laid k hp new)
def Inv.write{t':Nat}(I:Inv X A3 σ H s)(mu:Mut (H x))(he:e=x\/H e=some (.own x))(k:∀b u,b≠e->s.heap.get? b=some u->h'.get? b=some u)(heo:∃u,h'.get? e=some u)(new:ww4 X.prog X.w (upd H x o) h' x o):Inv X A3 σ (upd H x o) { s with heap:=h',toks:=t' }:=I.un (Un.write mu he k heo) (I.hok.write mu he k heo new)
def Inv.weak(I:Inv X A3 σ H s)(hl:σ'.length=σ.length)(w:∀(i:Nat) v,σ'[i]?=some (some v)->σ[i]?=some (some v)):Inv X A3 σ' H s:=
 ⟨I.ok,I.os,I.bare,I.base,let ⟨m,hn,hl'⟩:=I.loc;⟨m,hn,λi x v e1 e2 e3=>hl' i x v e1 (w i v e2) e3⟩,I.cell,I.free,I.freeC,I.pin,I.hok,hl.trans I.len⟩
def Inv.pins_of(I:Inv X A3 σ H s)(h:∀p∈pins',s.heap.get? p.1=some p.2/\H p.1=none/\p.1≠X.env.locals/\p.1∉X.fs/\∀v,p.2.data≠.cell v):Inv X pins' σ H s:=
 ⟨I.ok,I.os,I.bare,I.base,I.loc,I.cell,I.free,I.freeC,λp hp=>(Ay0.mp hp).elim (λz=>I.pin p (Bd0 _ z)) (h p),I.hok,I.len⟩
def yq4{N:List Str}(hN:N.Nodup){i j:Nat}{x:Str}(a:N[i]?=some x)(b:N[j]?=some x):i=j:=by
 obtain⟨h1,e1⟩:=Ac0.mp a;obtain⟨h2,e2⟩:=Ac0.mp b;exact(List.getElem_inj hN).mp (e1.trans e2.symm)
def yt5{M:Model}{A:Around}{E:Value->Shared->Prop}{i:Nat}{x:Str}{v:V}{u:Value}{Q:Unit->Shared->Prop}(I:Inv X A3 σ H s)(hN:X.N.Nodup)(hi:X.N[i]?=some x)(hx:Loc X.env.scope x)(r:wv5 v u)(h:∀s',Inv X A3 (σ.set i (some v)) H s'->(∃a,Heap.SameBut a s.heap s'.heap/\(a=X.env.locals\/X.env.cells.lookup x=some a))->Q () s')(hf:X.fn x=true\/X.env.scope.names.lookup x=some .local:=by first | exact .inl rfl | exact .inr rfl | assumption):wpAny M A (storeName X.env x u) Q E s:=by
 obtain⟨m,hn,hl⟩:=id I.loc;have hcls:(X.env.scope.kind == .class||(X.env.scope.kind == .module&&X.env.locals != X.env.globals))=false:=by rw[I.ok.kind];rfl
 have hiσ:i<σ.length:=by rw[I.len];exact(Ac0.mp hi).1
 have cne:=I.cne;have tracked:∀{a:Addr} {h':Heap},(∃o,s.heap.get? a=some o/\H a=none)->Heap.SameBut a s.heap h'->HOk X.prog X.w H h':=λ{a h'} ha hs b ob e=>by
  obtain⟨_,_,hfree⟩:=ha;refine(I.hok b ob e).stay (λc w' hc q=>(hs.2 c ?_).trans q) (λ_ q=>q) λ_ _ q=>q
  rintro rfl;rcases hc with rfl | hc
  ·rw[hfree] at e;cases e
  ·rw[hfree] at hc;cases hc
 rcases hx with hk | hk
 ·refine wpAny_storeName_local hk hn (λh' hn' hs=>?_) hcls
  obtain⟨oL,_,_,hoL,_⟩:=id hn;refine h _ ⟨I.ok,I.os,I.bare,⟨λb o e n hb hx=>?_,λb o e n hb hx=>?_,I.base.free,λb o e hx=>?_,I.base.tups,I.base.frzs,I.base.tbls⟩,⟨_,hn',λj y v' e1 e2 e3=>?_⟩,λy c e=>?_,I.free,I.freeC,λp hp=>?_,tracked ⟨oL,hoL,I.free⟩ hs,by simpa using I.len⟩ ⟨_,hs,.inl rfl⟩
  ·exact(hs.2 b (Ar0 (Ap0 (Heap.lt_size e) I.ok.above))).trans (I.base.keep b o e n hb hx)
  ·obtain⟨sl,e1⟩:=I.base.slot b o e n hb hx
   exact⟨sl,(hs.2 b (Ar0 (Ap0 (Heap.lt_size e) I.ok.above))).trans e1⟩
  ·obtain⟨o',e1⟩:=I.base.there b o e hx
   exact⟨o',(hs.2 b (Ar0 (Ap0 (Heap.lt_size e) I.ok.above))).trans e1⟩
  ·by_cases hj:j=i
   ·subst hj
    rw[hi] at e1;cases e1;rw[Bk0 hiσ] at e2;cases e2;exact⟨u,r,.inl ⟨hk,by simp⟩⟩
   ·rw[At0 (Ne.symm hj)] at e2
    obtain⟨u',r',q⟩:=hl j y v' e1 e2 e3;refine⟨u',r',?_⟩;rcases q with⟨k,e⟩ | ⟨k,c,e,z⟩
    ·refine .inl ⟨k,?_⟩
     have:y≠x:=λe=>hj (yq4 hN e1 (e▸hi))
     simp[this,e]
    ·exact .inr ⟨k,c,e,z.sameBut hs (cne y c e)⟩
  ·obtain⟨w',z⟩:=I.cell y c e
   exact⟨w',z.sameBut hs (cne y c e)⟩
  ·obtain⟨e,n,ne,nf,d⟩:=I.pin p hp
   exact⟨(hs.2 p.1 ne).trans e,n,ne,nf,d⟩
 ·have hfn:X.fn x=true:=by
   rcases hf with z | z
   ·exact z
   ·rw[z] at hk;cases hk
  obtain⟨c,hc⟩:=I.ok.has x (.inl hk);obtain⟨w',z⟩:=I.cell x c hc;refine wpAny_storeName_cell I.ok.kind hk hc z (λh' hc' hs=>?_);obtain⟨oc,hoc,hocd⟩:=id z;refine h { s with heap:=h' } ⟨I.ok,I.os,I.bare,⟨λb o e n hb hx=>?_,λb o e n hb hx=>?_,I.base.free,λb o e hx=>?_,I.base.tups,I.base.frzs,I.base.tbls⟩,⟨m,hn.sameBut hs (Ne.symm (cne x c hc)),λj y v' e1 e2 e3=>?_⟩,λy c' e=>?_,I.free,I.freeC,λp hp=>?_,tracked ⟨oc,hoc,I.freeC x c hc⟩ hs,by simpa using I.len⟩ ⟨c,hs,.inr hc⟩
  ·exact(hs.2 b (Ar0 (Ap0 (Heap.lt_size e) (I.ok.cab x c hfn hc)))).trans (I.base.keep b o e n hb hx)
  ·obtain⟨sl,e1⟩:=I.base.slot b o e n hb hx
   exact⟨sl,(hs.2 b (Ar0 (Ap0 (Heap.lt_size e) (I.ok.cab x c hfn hc)))).trans e1⟩
  ·obtain⟨o',e1⟩:=I.base.there b o e hx
   exact⟨o',(hs.2 b (Ar0 (Ap0 (Heap.lt_size e) (I.ok.cab x c hfn hc)))).trans e1⟩
  ·by_cases hj:j=i
   ·subst hj
    rw[hi] at e1;cases e1;rw[Bk0 hiσ] at e2;cases e2;exact⟨u,r,.inr ⟨.inl hk,c,hc,hc'⟩⟩
   ·rw[At0 (Ne.symm hj)] at e2
    obtain⟨u',r',q⟩:=hl j y v' e1 e2 e3;refine⟨u',r',?_⟩;rcases q with q | ⟨k,c',e,z'⟩
    ·exact .inl q
    ·refine .inr ⟨k,c',e,z'.sameBut hs ?_⟩
     rintro rfl;exact hj (yq4 hN e1 (I.ok.inj _ _ _ e hc▸hi))
  ·by_cases hcc:c'=c
   ·subst hcc;exact⟨_,hc'⟩
   ·obtain⟨w2,z2⟩:=I.cell y c' e
    exact⟨w2,z2.sameBut hs hcc⟩
  ·obtain⟨e,n,ne,nf,d⟩:=I.pin p hp
   refine⟨(hs.2 p.1 ?_).trans e,n,ne,nf,d⟩;intro q;rw[q,hoc] at e;have q':oc=p.2:=Option.some.inj e;exact d w' (by rw[<-q'];exact hocd)
def zh1{M:Model}{A:Around}{E:Value->Shared->Prop}{i:Nat}{x:Str}{v:V}{u:Value}{Q:Unit->Shared->Prop}(I:Inv X A3 σ H s)(hN:X.N.Nodup)(hi:X.N[i]?=some x)(hx:Loc X.env.scope x)(r:wv5 v u)(h:∀s',Inv X A3 (σ.set i (some v)) H s'->Q () s')(hf:X.fn x=true\/X.env.scope.names.lookup x=some .local:=by first | exact .inl rfl | exact .inr rfl | assumption):wpAny M A (storeName X.env x u) Q E s:=
 yt5 I hN hi hx r (λs' I' _=>h s' I') hf
def Inv.call'(I:Inv X A3 σ H s)(ho:s'.os=s.os)(u:Un (frs X.stack) ch H H' s.heap s'.heap)(hok:HOk X.prog X.w H' s'.heap)(hg:AllBare s'.gens)(hch:∀b∈ch,(b∈X.ex\/X.s₀.heap.objs.size<=b)/\b≠X.env.locals/\(∀x c,X.env.cells.lookup x=some c->c≠b)/\∀p∈X.pn++A3,p.1≠b):Inv X A3 σ H' s':=by
 obtain⟨h',g',d',t',o'⟩:=s';have e:o'=s.os:=ho;subst e;exact I.call (g':=g') (t':=t') (d':=d') u hok hg hch
end
abbrev XK:=Value->Option Addr->Hp->Prop
abbrev St:=List (Option V)
abbrev VK:=V->Hp->Prop
abbrev TE:=St->Hp->VK->Prop
abbrev TT:=St->Hp->(Bool->Hp->Prop)->Prop
abbrev TA:=St->Hp->(List V->Hp->Prop)->Prop
structure vf8 where
 nx:St->Hp->Prop
 rt:VK
 bk:St->Hp->Prop:=λ_ _=>False
 ct:St->Hp->Prop:=λ_ _=>False
abbrev TS:=vf8->St->Hp->Prop
def EP(X:Cx)(A3:List (Addr×Obj))(σ:St)(Q:VK)(u:Value)(s':Shared):Prop:=∃v H',Inv X A3 σ H' s'/\wv5 v u/\Q v H'
def TP(X:Cx)(A3:List (Addr×Obj))(σ:St)(Q:Bool->Hp->Prop)(b:Bool)(s':Shared):Prop:=∃H',Inv X A3 σ H' s'/\Q b H'
def AP(X:Cx)(A3:List (Addr×Obj))(σ:St)(Q:List V->Hp->Prop)(us:List Value)(s':Shared):Prop:=∃vs H',Inv X A3 σ H' s'/\wv6 vs us/\Q vs H'
open H in
def SP(X:Cx)(A3:List (Addr×Obj))(D:vf8)(f:Flow)(s':Shared):Prop:=
 match f with
 | .next=>∃σ' H',Inv X A3 σ' H' s'/\D.nx σ' H'
 | .brk=>∃σ' H',Inv X A3 σ' H' s'/\D.bk σ' H'
 | .cont=>∃σ' H',Inv X A3 σ' H' s'/\D.ct σ' H'
 | .ret u=>∃v σ' H',Inv X A3 σ' H' s'/\wv5 v u/\D.rt v H'
def PE(X:Cx)(e:Expr)(t:TE):Prop:=
 ∀(A3:List (Addr×Obj)) (s:Shared) (σ:St) (H:Hp) (Q:VK),Inv X A3 σ H s->t σ H Q->wpAny (model X.prog X.w) X.A (eval e X.env) (EP X A3 σ Q) X.xe s
def PT(X:Cx)(e:Expr)(t:TT):Prop:=
 ∀(A3:List (Addr×Obj)) (s:Shared) (σ:St) (H:Hp) (Q:Bool->Hp->Prop),Inv X A3 σ H s->t σ H Q->wpAny (model X.prog X.w) X.A (isTrue e X.env (eval e X.env)) (TP X A3 σ Q) X.xe s
def PW(X:Cx)(e:Expr)(t:TT):Prop:=
 ∀(whole:Sem Value) (A3:List (Addr×Obj)) (s:Shared) (σ:St) (H:Hp) (Q:Bool->Hp->Prop),Inv X A3 σ H s->t σ H Q->wpAny (model X.prog X.w) X.A (isTrue e X.env whole) (TP X A3 σ Q) X.xe s
def PW.pt{X:Cx}{e:Expr}{t:TT}(h:PW X e t):PT X e t:=h _
def PA(X:Cx)(es:List Expr)(t:TA):Prop:=
 ∀(pos:Pos) (A3:List (Addr×Obj)) (s:Shared) (σ:St) (H:Hp) (Q:List V->Hp->Prop),Inv X A3 σ H s->t σ H Q->wpAny (model X.prog X.w) X.A (spliced (backTo pos (starEach es X.env))) (AP X A3 σ Q) X.xe s
def PS(X:Cx)(st:Stmt)(t:TS):Prop:=
 ∀(A3:List (Addr×Obj)) (s:Shared) (σ:St) (H:Hp) (D:vf8),Inv X A3 σ H s->t D σ H->wpAny (model X.prog X.w) X.A (exec st X.env) (SP X A3 D) X.xe s
def PSs(X:Cx)(st:List Stmt)(t:TS):Prop:=
 ∀(A3:List (Addr×Obj)) (s:Shared) (σ:St) (H:Hp) (D:vf8),Inv X A3 σ H s->t D σ H->wpAny (model X.prog X.w) X.A (execs st X.env) (SP X A3 D) X.xe s
def thn{α:Type}{t:Sem α}{Q Q':α->Shared->Prop}{M:Model}{A:Around}{E:Value->Shared->Prop}{s:Shared}(h:wpAny M A t Q E s)(hQ:∀a s,Q a s->Q' a s):wpAny M A t Q' E s:=Ae1 h hQ λ_ _ x=>x
section
variable{X:Cx}
def vb2(i:Nat):TE:=λσ H Q=>∃v,σ[i]?=some (some v)/\Q v H
def tC(v:V):TE:=λ_ H Q=>Q v H
def zu1{i:Nat}{x:Str}(hN:X.N[i]?=some x)(hv:Vis X.env.scope x)(hd:(x == ("__debug__" : Str))=false:=by decide)(hcd:(x == ("__classdict__" : Str))=false:=by decide):PE X (.Name x pos) (vb2 i):=by
 intro A3 s σ H Q I h;obtain⟨v,e,h⟩:=h;obtain⟨m,hn,hl⟩:=I.loc;obtain⟨u,r,l⟩:=hl i x v hN e hv;have fin:EP X A3 σ Q u s:=⟨v,H,I,r,h⟩;rcases l with⟨hk,hm⟩ | ⟨hk,c,hc,hcell⟩
 ·exact wpAny_Name (wpAny_loadName_local I.ok.kind hk hn hm fin) hd
 ·rcases hk with hk | hk
  ·exact wpAny_Name (wpAny_loadName_cell I.ok.kind hk hc hcell fin) hd
  ·exact wpAny_Name (wpAny_loadName_free I.ok.kind hk hc hcell fin hcd) hd
def zh3{i j pos}:PE X (.Constant (.int i) j pos) (tC (.int i)):=λ_ _ _ H _ I h=>wpAny_Constant_int ⟨.int i,H,I.tok _,⟨_,rfl⟩,h⟩
def vv2{b j pos}:PE X (.Constant (.bool b) j pos) (tC (.bl b)):=λ_ _ _ H _ I h=>Constant_bool ⟨.bl b,H,I,rfl,h⟩
def yu7{j pos}:PE X (.Constant .none j pos) (tC .non):=λ_ _ _ H _ I h=>Constant_none ⟨.non,H,I,rfl,h⟩
def zo9{x j pos}:PE X (.Constant (.str x) j pos) (tC (.str x)):=λ_ _ _ H _ I h=>Calls.Constant_str ⟨.str x,H,I.tok _,⟨_,rfl⟩,h⟩
def Gl(X:Cx)(x:Str):Prop:=X.env.kindOf x=some .globalImplicit
def zu9{E:Value->Shared->Prop}{A3:List (Addr×Obj)}{s:Shared}{σ:St}{H:Hp}{x:Str}{u:Value}{pos:Pos}{Q:Value->Shared->Prop}(I:Inv X A3 σ H s)(hg:Gl X x)(hm:X.mg x=some u)(h:Q u s)(hd:(x == ("__debug__" : Str))=false:=by decide):wpAny (model X.prog X.w) X.A (eval (.Name x pos) X.env) Q E s:=
 Calls.Name_function_global I.ok.kind hg (Calls.loadGlobal_global (by rw[I.ok.glob];exact I.mod.glob.keeps I.bk) hm h) hd
def ya7{E:Value->Shared->Prop}{A3:List (Addr×Obj)}{s:Shared}{σ:St}{H:Hp}{x:Str}{u:Value}{pos:Pos}{Q:Value->Shared->Prop}(I:Inv X A3 σ H s)(hg:Gl X x)(hm:X.mg x=none)(hv:bootBuiltins x=some u)(h:Q u s)(hn:x≠"__name__":=by decide)(hd:(x == ("__debug__" : Str))=false:=by decide):wpAny (model X.prog X.w) X.A (eval (.Name x pos) X.env) Q E s:=by
 obtain⟨mb,h1,h2⟩:=I.mod.blt;exact Calls.Name_function_global I.ok.kind hg (Calls.loadGlobal_builtin (by rw[I.ok.glob];exact I.mod.glob.keeps I.bk) hm (by rw[I.ok.blt];exact h1.keeps I.bk) ((h2 x hn).trans hv) h) hd
def zu2{x:Str}(hg:Gl X x)(hm:X.mg x=some u)(r:wv5 v u)(hd:(x == ("__debug__" : Str))=false:=by decide):PE X (.Name x pos) (tC v):=
 λ_ _ _ H _ I h=>zu9 I hg hm ⟨v,H,I,r,h⟩ hd
def xr5{x:Str}(hg:Gl X x)(hm:X.mg x=none)(hv:bootBuiltins x=some u)(r:wv5 v u)(hn:x≠"__name__":=by decide)(hd:(x == ("__debug__" : Str))=false:=by decide):PE X (.Name x pos) (tC v):=
 λ_ _ _ H _ I h=>ya7 I hg hm hv ⟨v,H,I,r,h⟩ hn hd
variable{a b:Expr}{ta tb:TE}{pos:Pos}
def PC(X:Cx)(op:CmpOp)(a b:Expr)(t:TE):Prop:=
 ∀(A3:List (Addr×Obj)) (s:Shared) (σ:St) (H:Hp) (Q:VK),Inv X A3 σ H s->t σ H Q->
  wpAny (model X.prog X.w) X.A (eval a X.env) (λv s₁=>wpAny (model X.prog X.w) X.A (eval b X.env) (λu s₂=>wpAny (model X.prog X.w) X.A (compareOp op v u) (EP X A3 σ Q) X.xe s₂) X.xe s₁) X.xe s
def xf6(b:Expr){op:CmpOp}(h:op≠.In)(h2:op≠.NotIn):behindInMarks op b=false:=by
 have e1:(op == CmpOp.In)=false:=by cases op<;>first | rfl | exact absurd rfl h
 have e2:(op == CmpOp.NotIn)=false:=by cases op<;>first | rfl | exact absurd rfl h2
 cases b<;>simp[behindInMarks,e1,e2]
def ud1(ta:TE):TE:=λσ H Q=>ta σ H λx H1=>Q (.bl (decide (x=.non))) H1
theorem wv5.none_iff{x:V}{v:Value}(r:wv5 x v):(v == Value.none)=decide (x=.non):=by
 cases x with
 | non=>cases r;rfl
 | bl _=>cases r;rfl
 | int _=>obtain⟨t,rfl⟩:=r;rfl
 | str _=>obtain⟨t,rfl⟩:=r;rfl
 | byt _=>obtain⟨t,rfl⟩:=r;rfl
 | flt _=>obtain⟨t,rfl⟩:=r;rfl
 | ref _=>cases r;rfl
 | ty _=>cases r;rfl
def we4{j pos'}(ha:PE X a ta):PC X .Is a (.Constant .none j pos') (ud1 ta):=by
 intro A3 s σ H Q I h;refine thn (ha A3 s σ H _ I h) λv s1 hI54=>?_
 obtain⟨x,H1,I1,r1,q1⟩:=hI54;exact Constant_none (is_none_gen ⟨.bl _,H1,I1,by rw[r1.none_iff];rfl,q1⟩)
def tB(t:TE):TT:=λσ H Q=>t σ H λx H1=>∃c,x=.bl c/\Q c H1
def wq0(h:PC X op a b t)(h1:behindInMarks op b=false:=by first | exact xf6 _ (by decide) (by decide) | rfl):PE X (.Compare a [op] [b] pos) t:=λA3 s σ H Q I hw=>wpAny_Compare1 (h A3 s σ H Q I hw) h1
def we2{op:CmpOp}{t:TE}(h:PC X op a b t)(h1:behindInMarks op b=false:=by first | exact xf6 _ (by decide) (by decide) | rfl):PT X (.Compare a [op] [b] pos) (tB t):=by
 intro A3 s σ H Q I hw;refine wpAny_isTrue_Compare1 (thn (h A3 s σ H _ I hw) λv s1 h1=>thn h1 λu s2 h2=>thn h2 λc s3 hI55=>?_) h1;obtain⟨x,H1,I1,r1,q1⟩:=hI55;obtain⟨d,rfl,q⟩:=q1;cases r1;exact Af1 ⟨H1,I1,q⟩
def xe8{e:Expr}{t:TE}(h:PE X e t)(he:∀whole,isTrue e X.env whole=(do let v <-whole;standAt e.pos;holding [v] (truthy v)):=by intro _;rfl):PT X e (tB t):=by
 intro A3 s σ H Q I hw;refine isTrue_plain (thn (h A3 s σ H _ I hw) λv s1 hI56=>?_) (he _);obtain⟨x,H1,I1,r1,q1⟩:=hI56;obtain⟨d,rfl,q⟩:=q1;cases r1;exact Af1 ⟨H1,I1,q⟩
variable{tA tB':TT}{wx2:List Expr}
def ud7(t u:TT):TT:=λσ H Q=>t σ H λc H1=>if c=true then u σ H1 Q else Q false H1
def tOr(t u:TT):TT:=λσ H Q=>t σ H λc H1=>if c=true then Q true H1 else u σ H1 Q
def uc9(t:TT):TT:=λσ H Q=>t σ H λc H1=>Q (!c) H1
theorem pw_and1(ha:PT X a tA):PW X (.BoolOp .And [a] pos) tA:=by
 intro wh A3 s σ H Q I h;refine isTrue_and (thn (ha A3 s σ H Q I h) λc s1 e=>?_);cases c with
 | true=>exact isTrue_and_nil e
 | false=>exact e
theorem pw_or1(ha:PT X a tA):PW X (.BoolOp .Or [a] pos) tA:=by
 intro wh A3 s σ H Q I h;refine isTrue_or (thn (ha A3 s σ H Q I h) λc s1 e=>?_);cases c with
 | false=>exact isTrue_or_nil e
 | true=>exact e
theorem pw_and(ha:PT X a tA)(hb:PW X (.BoolOp .And (b::wx2) pos) tB'):PW X (.BoolOp .And (a::b::wx2) pos) (ud7 tA tB'):=by
 intro wh A3 s σ H Q I h;refine isTrue_and (thn (ha A3 s σ H _ I h) λc s1 hI57=>?_);obtain⟨H1,I1,q1⟩:=hI57;cases c with
 | true=>exact hb wh A3 s1 σ H1 Q I1 q1
 | false=>exact⟨H1,I1,q1⟩
theorem pw_or(ha:PT X a tA)(hb:PW X (.BoolOp .Or (b::wx2) pos) tB'):PW X (.BoolOp .Or (a::b::wx2) pos) (tOr tA tB'):=by
 intro wh A3 s σ H Q I h;refine isTrue_or (thn (ha A3 s σ H _ I h) λc s1 hI58=>?_);obtain⟨H1,I1,q1⟩:=hI58;cases c with
 | true=>exact⟨H1,I1,q1⟩
 | false=>exact hb wh A3 s1 σ H1 Q I1 q1
def we1(ha:PT X a tA):PT X (.UnaryOp .Not a pos) (uc9 tA):=by
 intro A3 s σ H Q I h;exact isTrue_not (ha A3 s σ H (λc H1=>Q (!c) H1) I h)
def vt6(ta tb:TE):TE:=λσ H Q=>ta σ H λx H1=>∃c,x=.bl c/\if c=true then tb σ H1 Q else Q (.bl false) H1
def uc8(ta tb:TE):TE:=λσ H Q=>ta σ H λx H1=>∃c,x=.bl c/\if c=true then Q (.bl true) H1 else tb σ H1 Q
def vt2(ta:TE):TE:=λσ H Q=>ta σ H λx H1=>∃c,x=.bl c/\Q (.bl (!c)) H1
def wp8{op}(h:PE X a t):PE X (.BoolOp op [a] pos) t:=λA3 s σ H Q I hw=>BoolOp_one (h A3 s σ H Q I hw)
theorem wq2(ha:PE X a ta)(hb:PE X (.BoolOp .And (b::wx2) pos) tb):PE X (.BoolOp .And (a::b::wx2) pos) (vt6 ta tb):=by
 intro A3 s σ H Q I h;refine BoolOp_and (thn (ha A3 s σ H _ I h) λv s1 hI59=>?_);obtain⟨x,H1,I1,r1,q1⟩:=hI59;obtain⟨c,rfl,q1⟩:=q1;cases r1;refine Af1 ?_;cases c with
 | true=>exact hb A3 s1 σ H1 Q I1 q1
 | false=>exact⟨.bl false,H1,I1,rfl,q1⟩
theorem vv1(ha:PE X a ta)(hb:PE X (.BoolOp .Or (b::wx2) pos) tb):PE X (.BoolOp .Or (a::b::wx2) pos) (uc8 ta tb):=by
 intro A3 s σ H Q I h;refine BoolOp_or (thn (ha A3 s σ H _ I h) λv s1 hI60=>?_);obtain⟨x,H1,I1,r1,q1⟩:=hI60;obtain⟨c,rfl,q1⟩:=q1;cases r1;refine Af1 ?_;cases c with
 | false=>exact hb A3 s1 σ H1 Q I1 q1
 | true=>exact⟨.bl true,H1,I1,rfl,q1⟩
def wp9(ha:PE X a ta):PE X (.UnaryOp .Not a pos) (vt2 ta):=by
 intro A3 s σ H Q I h;refine UnaryOp_ (thn (ha A3 s σ H _ I h) λv s1 hI61=>?_);obtain⟨x,H1,I1,r1,q1⟩:=hI61;obtain⟨c,rfl,q1⟩:=q1;cases r1;exact not_of (Af1 ⟨.bl (!c),H1,I1,rfl,q1⟩)
def tIf(t:TT)(ta tb:TE):TE:=λσ H Q=>t σ H λc H1=>if c=true then ta σ H1 Q else tb σ H1 Q
theorem xz6{c:Expr}(hc:PT X c tA)(ha:PE X a ta)(hb:PE X b tb):PE X (.IfExp c a b pos) (tIf tA ta tb):=by
 intro A3 s σ H Q I h;refine wpAny_IfExp (thn (hc A3 s σ H _ I h) λd s1 hI62=>?_);obtain⟨H1,I1,q1⟩:=hI62;cases d with
 | true=>exact ha A3 s1 σ H1 Q I1 q1
 | false=>exact hb A3 s1 σ H1 Q I1 q1
end
def SqL(K:PySem.W.Frag)(H:Hp)(a:Addr)(xs:List V):Prop:=
 Rd H a (.lst xs)\/
  ∃(o:Obj) (its:Array Value) (n:Nat),K.lookup a=some o/\o.cls=.type "list"/\o.dict=none/\o.data=.seq its n/\its.size<=sizeLine/\wv6 xs its.toList
def SqT(K:PySem.W.Frag)(H:Hp)(a:Addr)(xs:List V):Prop:=
 Rd H a (.tup xs)\/
  ∃(o:Obj) (its:Array Value) (n:Nat),K.lookup a=some o/\o.cls=.type "tuple"/\o.data=.seq its n/\its.size<=sizeLine/\wv6 xs its.toList
def uf3:Value->Option V
 | .none=>some .non
 | .bool b=>some (.bl b)
 | .int i _=>some (.int i)
 | .str x _=>some (.str x)
 | .bytes b _=>some (.byt b)
 | .float b _=>some (.flt b)
 | .ref a=>some (.ref a)
 | .type n=>some (.ty n)
 | _=>none
theorem wv5.abs(r:wv5 x u):uf3 u=some x:=by
 cases x with
 | non=>cases r;rfl
 | bl _=>cases r;rfl
 | int _=>obtain⟨t,rfl⟩:=r;rfl
 | str _=>obtain⟨t,rfl⟩:=r;rfl
 | byt _=>obtain⟨t,rfl⟩:=r;rfl
 | flt _=>obtain⟨t,rfl⟩:=r;rfl
 | ref _=>cases r;rfl
 | ty _=>cases r;rfl
def wv5.inj(r:wv5 x u)(q:wv5 y u):x=y:=Option.some.inj (r.abs.symm.trans q.abs)
theorem wv6.inj:∀{xs ys:List V} {us:List Value},wv6 xs us->wv6 ys us->xs=ys
 | _,_,_,.nil,.nil=>rfl
 | _,_,_,.cons r t,.cons r' t'=>by rw[r.inj r',wv6.inj t t']
section
variable{X:Cx}{A3:List (Addr×Obj)}{σ:St}{H:Hp}{s:Shared}{a:Addr}{xs ys:List V}
def SqL.of{K:PySem.W.Frag}(h:H a=some (.lst xs)):SqL K H a xs:=.inl (.inl h)
def SqT.of{K:PySem.W.Frag}(h:H a=some (.tup xs)):SqT K H a xs:=.inl (.inl h)
def Inv.list(I:Inv X A3 σ H s)(h:SqL X.K H a xs):∃its:List Value,wv6 xs its/\PlainL s.heap a its.toArray/\xs.length<=sizeLine:=by
 rcases h with h | ⟨o,its,n,hk,hc,hd,hs,hz,r⟩
 ·obtain⟨z,its,n,r,e⟩:=h.ok I.hok
  exact⟨its,r,⟨_,n,e,rfl,rfl,rfl⟩,z⟩
 ·refine⟨its.toList,r,⟨o,n,I.kIn a o hk,hc,hd,by simpa using hs⟩,?_⟩
  have e:=r.length;simp only[Ck0] at e;omega
def Inv.tuple(I:Inv X A3 σ H s)(h:SqT X.K H a xs):∃its:List Value,wv6 xs its/\IsTup s.heap a its.toArray/\xs.length<=sizeLine:=by
 rcases h with h | ⟨o,its,n,hk,hc,hs,hz,r⟩
 ·obtain⟨z,its,r,p,_⟩:=h.ok I.hok
  exact⟨its,r,p,z⟩
 ·refine⟨its.toList,r,⟨o,I.kIn a o hk,hc,n,by simpa using hs⟩,?_⟩
  have e:=r.length;simp only[Ck0] at e;omega
def Inv.list_inj(I:Inv X A3 σ H s)(h:SqL X.K H a xs)(h':SqL X.K H a ys):xs=ys:=by
 obtain⟨its,r,⟨o,n,e,_,_,d⟩,_⟩:=I.list h;obtain⟨its',r',⟨o',n',e',_,_,d'⟩,_⟩:=I.list h';rw[e] at e';cases e';rw[d] at d';injection d' with d1 _
 have:its=its':=by simpa using congrArg Array.toList d1
 subst this;exact r.inj r'
def Inv.tuple_inj(I:Inv X A3 σ H s)(h:SqT X.K H a xs)(h':SqT X.K H a ys):xs=ys:=by
 obtain⟨its,r,⟨o,e,_,n,d⟩,_⟩:=I.tuple h;obtain⟨its',r',⟨o',e',_,n',d'⟩,_⟩:=I.tuple h';rw[e] at e';cases e';rw[d] at d';injection d' with d1 _
 have:its=its':=by simpa using congrArg Array.toList d1
 subst this;exact r.inj r'
end
abbrev Cx.wish(X:Cx)(E:Value->Shared->Prop):Cx:={ X with xe:=E }
abbrev Cx.nox(X:Cx):Cx:=X.wish λ_ _=>False
def Cx.Ok.wish{X:Cx}(ok:X.Ok)(E:Value->Shared->Prop):(X.wish E).Ok:=
 ⟨ok.mod,ok.kind,ok.glob,ok.blt,ok.above,ok.inj,ok.has,ok.cab,ok.hd,ok.frames,ok.stk,ok.exf,ok.bs,ok.bsz,ok.noex,ok.exfs,ok.funs,ok.frf⟩
def Cx.Ok.unwish{X:Cx}{E:Value->Shared->Prop}(ok:(X.wish E).Ok):X.Ok:=
 ⟨ok.mod,ok.kind,ok.glob,ok.blt,ok.above,ok.inj,ok.has,ok.cab,ok.hd,ok.frames,ok.stk,ok.exf,ok.bs,ok.bsz,ok.noex,ok.exfs,ok.funs,ok.frf⟩
section
variable{X:Cx}{A3:List (Addr×Obj)}{σ:St}{H:Hp}{s:Shared}{E:Value->Shared->Prop}{st:Stmt}{wx2:List Stmt}{t u:TS}{e:Expr}{te:TE}{pos:Pos}
def Inv.wish(I:Inv X A3 σ H s)(E:Value->Shared->Prop):Inv (X.wish E) A3 σ H s:=⟨I.ok.wish E,I.os,I.bare,I.base,I.loc,I.cell,I.free,I.freeC,I.pin,I.hok,I.len⟩
def Inv.unwish(I:Inv (X.wish E) A3 σ H s):Inv X A3 σ H s:=⟨I.ok.unwish,I.os,I.bare,I.base,I.loc,I.cell,I.free,I.freeC,I.pin,I.hok,I.len⟩
open H in
theorem SP.unwish(h:SP (X.wish E) A3 D f s'):SP X A3 D f s':=by
 cases f with
 | next=>obtain⟨σ',H',I,q⟩:=h;exact⟨σ',H',I.unwish,q⟩
 | brk=>obtain⟨σ',H',I,q⟩:=h;exact⟨σ',H',I.unwish,q⟩
 | cont=>obtain⟨σ',H',I,q⟩:=h;exact⟨σ',H',I.unwish,q⟩
 | ret u=>obtain⟨v,σ',H',I,r,q⟩:=h;exact⟨v,σ',H',I.unwish,r,q⟩
def PSs.nox{st:List Stmt}{t:TS}(h:PSs X.nox st t):PSs X st t:=λA3 s σ H D I hw=>
 Ae1 (h A3 s σ H D (I.wish _) hw) (λ_ _ q=>q.unwish) λ_ _ z=>False.elim z
def vt3:TS:=λD σ H=>D.nx σ H
def uc4(t u:TS):TS:=λD σ H=>t { D with nx:=u D } σ H
def zx8:PSs X [] vt3:=λ_ _ σ H _ I h=>wpAny_execs_nil ⟨σ,H,I,h⟩
open H in
theorem zg4(h1:PS X st t)(h2:PSs X wx2 u):PSs X (st::wx2) (uc4 t u):=by
 intro A3 s σ H D I h;refine wpAny_execs_cons (thn (h1 A3 s σ H { D with nx:=u D } I h) λf s1 q=>?_);cases f with
 | next=>
   obtain⟨σ',H',I',q⟩:=q;exact h2 A3 s1 σ' H' D I' q
 | ret v=>exact q
 | brk=>exact q
 | cont=>exact q
open H in
theorem zp6(h1:PS X st t):PSs X [st] t:=by
 intro A3 s σ H D I h;refine wpAny_execs_cons (thn (h1 A3 s σ H D I h) λf s1 q=>?_);cases f with
 | next=>exact wpAny_execs_nil q
 | ret v=>exact q
 | brk=>exact q
 | cont=>exact q
def Inv.quiet{A3:List (Addr×Obj)}{σ:St}{H:Hp}{s:Shared}(I:Inv X A3 σ H s):interactive X.env=false:=by simp[interactive,I.ok.kind]
def vt4(te:TE):TS:=λD σ H=>te σ H λ_ H1=>D.nx σ H1
def yp9(he:PE X e te)(hs:swapsWith e none pos.line X.env=pure false:=by rfl):PS X (.Expr e pos) (vt4 te):=by
 intro A3 s σ H D I h;exact wpAny_Expr_any (thn (he A3 s σ H _ I h) λv s1 ⟨x,H1,I1,r1,q1⟩=>⟨σ,H1,I1,q1⟩) I.quiet hs
def uc6(te:TE):TS:=λD σ H=>te σ H D.rt
def zz4(he:PE X e te):PS X (.Return (some e) pos) (uc6 te):=by
 intro A3 s σ H D I h;exact wpAny_Return_some (thn (he A3 s σ H _ I h) λv s1 ⟨x,H1,I1,r1,q1⟩=>⟨x,σ,H1,I1,r1,q1⟩)
def ud2(c:TT)(t u:TS):TS:=λD σ H=>c σ H λb H1=>if b=true then t D σ H1 else u D σ H1
theorem vc5{c:Expr}{a b:List Stmt}{tc:TT}(hc:PT X c tc)(ha:PSs X a t)(hb:PSs X b u):PS X (.If c a b pos) (ud2 tc t u):=by
 intro A3 s σ H D I h;refine wpAny_If (thn (hc A3 s σ H _ I h) λd s1 hI63=>?_);obtain⟨H1,I1,q1⟩:=hI63;cases d with
 | true=>exact ha A3 s1 σ H1 D I1 q1
 | false=>exact hb A3 s1 σ H1 D I1 q1
end
abbrev TG:=V->St->Hp->(St->Hp->Prop)->Prop
abbrev TGs:=List V->St->Hp->(St->Hp->Prop)->Prop
def PG(X:Cx)(target:Expr)(t:TG):Prop:=
 ∀(A3:List (Addr×Obj)) (s:Shared) (σ:St) (H:Hp) (v:V) (u:Value) (Q:St->Hp->Prop),Inv X A3 σ H s->wv5 v u->t v σ H Q->
  wpAny (model X.prog X.w) X.A (assign target X.env u) (λ_ s'=>∃σ' H',Inv X A3 σ' H' s'/\Q σ' H') X.xe s
def PGs(X:Cx)(ts:List Expr)(t:TGs):Prop:=
 ∀(A3:List (Addr×Obj)) (s:Shared) (σ:St) (H:Hp) (vs:List V) (us:List Value) (Q:St->Hp->Prop),Inv X A3 σ H s->wv6 vs us->t vs σ H Q->
  wpAny (model X.prog X.w) X.A (assignInOrder ((assignEach ts X.env).map (·.2)) us) (λ_ s'=>∃σ' H',Inv X A3 σ' H' s'/\Q σ' H') X.xe s
abbrev vy9:=V->V->V->Hp->(Hp->Prop)->Prop
def uc0(X:Cx)(t:vy9):Prop:=
 ∀(A3:List (Addr×Obj)) (s:Shared) (σ:St) (H:Hp) (o i v:V) (ov iv u:Value) (Q:Hp->Prop),Inv X A3 σ H s->wv5 o ov->wv5 i iv->wv5 v u->t o i v H Q->
  wpAny (model X.prog X.w) X.A (setItem ov iv u) (λ_ s'=>∃H',Inv X A3 σ H' s'/\Q H') X.xe s
abbrev TIp:=V->V->Hp->VK->Prop
def PIp(X:Cx)(op:Operator)(t:TIp):Prop:=
 ∀(A3:List (Addr×Obj)) (s:Shared) (σ:St) (H:Hp) (x y:V) (v u:Value) (Q:VK),Inv X A3 σ H s->wv5 x v->wv5 y u->t x y H Q->
  wpAny (model X.prog X.w) X.A (inplaceOp op v u) (EP X A3 σ Q) X.xe s
section
variable{X:Cx}{pos:Pos}
def ve6(i:Nat):TG:=λv σ H Q=>Q (σ.set i (some v)) H
def yq1{i:Nat}{x:Str}(hN:X.N.Nodup)(hi:X.N[i]?=some x)(hx:Loc X.env.scope x)(hf:X.fn x=true\/X.env.scope.names.lookup x=some .local:=by first | exact .inl rfl | exact .inr rfl | assumption):PG X (.Name x pos) (ve6 i):=by
 intro A3 s σ H v u Q I r h;exact wpAny_assign_Name (zh1 I hN hi hx r (λs' I'=>⟨_,H,I',h⟩) hf)
def ue8:TGs:=λvs σ H Q=>vs=[]/\Q σ H
def vx0(t:TG)(u:TGs):TGs:=λvs σ H Q=>∃v r,vs=v::r/\t v σ H λσ' H'=>u r σ' H' Q
def xa5:PGs X [] ue8:=by
 intro A3 s σ H vs us Q I r h;obtain⟨e,h⟩:=h;subst e;cases r;exact assignInOrder_nil ⟨σ,H,I,h⟩
theorem zz6{e:Expr}{es:List Expr}{t:TG}{u:TGs}(h1:PG X e t)(h2:PGs X es u)(hs:(assignEach (e::es) X.env).map (·.2)=assign e X.env::(assignEach es X.env).map (·.2):=by rfl):PGs X (e::es) (vx0 t u):=by
 intro A3 s σ H vs us Q I r h;obtain⟨v,vr,e1,h⟩:=h;subst e1;cases r with
 | cons r rr=>
   rw[hs];refine assignInOrder_cons (thn (h1 A3 s σ H _ _ _ I r h) λ_ s1 hI64=>?_);obtain⟨σ1,H1,I1,q1⟩:=hI64;exact h2 A3 s1 σ1 H1 _ _ Q I1 rr q1
def ue7(K:PySem.W.Frag)(n:Nat)(t:TGs):TG:=λv σ H Q=>∃a xs,v=.ref a/\SqT K H a xs/\xs.length=n/\t xs σ H Q
def xr0{k:Nat}{n:Nat}(hc:X.calm=true)(h:PGs X es t)(hn:(assignEach es X.env).length=n:=by rfl)(hst:(assignEach es X.env).findIdx? (·.1)=none:=by rfl):PG X (.Tuple es k pos) (ue7 X.K n t):=by
 intro A3 s σ H v u Q I r hw;obtain⟨a,xs,e1,hq,hl,hw⟩:=hw;subst e1;cases r;obtain⟨its,rv,ht,hz⟩:=I.tuple hq;refine assign_Tuple_tuple (I.ok.hd hc) ht (by simp[hn,<-hl,rv.length]) hst λh' hx=>?_
 have I1:Inv X A3 σ H { s with heap:=h' }:=I.kept (t':=s.toks) λb o e=>hx b o (Ar0 (Heap.lt_size e)) e
 exact h A3 _ σ H xs _ Q I1 (by simpa using rv) hw
def ua8(to ti:TE)(t:vy9):TG:=λv σ H Q=>to σ H λo H1=>ti σ H1 λi H2=>t o i v H2 λH3=>Q σ H3
def xf0{o i:Expr}{to ti:TE}{t:vy9}(ho:PE X o to)(hi:PE X i ti)(hs:uc0 X t)(ha:∀v,assign (.Subscript o i pos) X.env v=(do
  let ov <-holding [v] (eval o X.env)
  let iv <-holding [v,ov] (eval i X.env)
  standAt pos
  holding [v,ov,iv] (setItem ov iv v)
  release [v,ov,iv] []):=by intro _;rfl):PG X (.Subscript o i pos) (ua8 to ti t):=by
 intro A3 s σ H v u Q I r h;rw[ha];refine Aa1 (wpAny_holding (thn (ho A3 s σ H _ I h) λov s1 hI65=>?_));obtain⟨x,H1,I1,r1,q1⟩:=hI65;refine Aa1 (wpAny_holding (thn (hi A3 s1 σ H1 _ I1 q1) λiv s2 hI66=>?_));obtain⟨y,H2,I2,r2,q2⟩:=hI66;refine Aa1 (wpAny_standAt (Aa1 (wpAny_holding (thn (hs A3 s2 σ H2 x y v ov iv u _ I2 r1 r2 r q2) λ_ s3 hI67=>?_))));obtain⟨H3,I3,q3⟩:=hI67;exact wpAny_release ⟨σ,H3,I3,q3⟩
def vm7(te:TE)(g:TG):TS:=λD σ H=>te σ H λx H1=>g x σ H1 D.nx
def ym2{tg e:Expr}{te:TE}{g:TG}(he:PE X e te)(hg:PG X tg g)(hs:swapsWithSole [tg] e pos.line X.env=pure false:=by rfl)(hw:swappedStores [tg] e X.env=pure none:=by rfl)(h1:(assignEach [tg] X.env).map (·.2)=[assign tg X.env]:=by rfl):PS X (.Assign [tg] e pos) (vm7 te g):=by
 intro A3 s σ H D I h;refine wpAny_Assign_stores (thn (he A3 s σ H _ I h) λv s1 hI68=>?_) hs hw;obtain⟨x,H1,I1,r1,q1⟩:=hI68;rw[h1];exact thn (hg A3 s1 σ H1 x v _ I1 r1 q1) λ_ s2 q=>q
def zl6{i:Nat}{x:Str}{e:Expr}{te:TE}{pos':Pos}(hN:X.N.Nodup)(hi:X.N[i]?=some x)(hx:Loc X.env.scope x)(he:PE X e te)(hs:swapsWith e (some (.Name x pos')) pos.line X.env=pure false:=by rfl)(hf:X.fn x=true\/X.env.scope.names.lookup x=some .local:=by first | exact .inl rfl | exact .inr rfl | assumption) :
 PS X (.Assign [.Name x pos'] e pos) (vm7 te (ve6 i)):=by
 intro A3 s σ H D I h;refine wpAny_Assign_Name (thn (he A3 s σ H _ I h) λv s1 hI69=>?_) hs;obtain⟨y,H1,I1,r1,q1⟩:=hI69;exact zh1 I1 hN hi hx r1 (λs2 I2=>⟨_,H1,I2,q1⟩) hf
def uc7(i j:Nat)(ta:TA):TS:=λD σ H=>ta σ H λvs H1=>∃v w,vs=[v,w]/\D.nx ((σ.set i (some v)).set j (some w)) H1
def wp2{i j:Nat}{x y:Str}{a b:Expr}{ta:TA}{px py pt:Pos}{kt k2 pt2}(hc:X.calm=true)(hN:X.N.Nodup)(hi:X.N[i]?=some x)(hj:X.N[j]?=some y)(hij:i≠j)(hx:X.env.scope.names.lookup x=some .local)(hy:X.env.scope.names.lookup y=some .local)(ha:PA X [a,b] ta)(hw:swappedStores [.Tuple [.Name x px,.Name y py] kt pt] (.Tuple [a,b] k2 pt2) X.env=pure (some [x,y]))(hs:swapsWithSole [.Tuple [.Name x px,.Name y py] kt pt] (.Tuple [a,b] k2 pt2) pos.line X.env=pure false:=by rfl) :
 PS X (.Assign [.Tuple [.Name x px,.Name y py] kt pt] (.Tuple [a,b] k2 pt2) pos) (uc7 i j ta):=by
 intro A3 s σ H D I h;rw[exec_Assign_arm];refine Aa1 (wpAny_standAt ?_);rw[hs];refine Aa1 (Ab1 ?_);rw[if_neg (by decide)];refine Aa1 (Tuple_ (thn (ha _ A3 s σ H _ I h) λus s1 hI70=>?_));obtain⟨vs,H1,I1,r1,q1⟩:=hI70;obtain⟨v,w,e1,q1⟩:=q1;subst e1;obtain⟨u1,u2,rfl,rv,rw'⟩:∃u1 u2,us=[u1,u2]/\wv5 v u1/\wv5 w u2:=by
  cases r1 with
  | cons p q=>
    cases q with
    | cons p' q'=>
      cases q';exact⟨_,_,rfl,p,p'⟩
 refine wpAny_newObj_type ?_ (by show 2<=sizeLine;decide);have I2:Inv X A3 σ H1 { s1 with heap:=s1.heap.push { cls:=.type "tuple",data:=.seq [u1,u2].toArray } }:=I1.kept (t':=s1.toks) λb o e=>Ab0 _ e
 rw[hw];refine Aa1 (Ab1 ?_);show wpAny (model X.prog X.w) X.A (do rule "assign.swapped-stores";let items <-unpackItems (.ref s1.heap.objs.size) 2 none;assignInOrder [λv=>bindName X.env y v,λv=>bindName X.env x v] items.reverse;pure Flow.next) _ _ _;refine Aa1 (wpAny_rule (Aa1 (unpackItems_tuple (items:=#[u1,u2]) (I.ok.hd hc) (IsTup.new s1.heap _) λh' hx'=>?_)));have I3:=I2.kept (h':=h') (t':=s1.toks) λb o e=>hx' b o (Ar0 (Heap.lt_size e)) e
 show wpAny _ _ (assignInOrder [λv=>bindName X.env y v,λv=>bindName X.env x v] [u2,u1] >>= λ_=>pure Flow.next) _ _ _;refine Aa1 (assignInOrder_cons (wpAny_bindName (zh1 I3 hN hj (.inl hy) rw' (λs2 I4=>?_) (.inr hy))));refine assignInOrder_cons (wpAny_bindName (zh1 I4 hN hi (.inl hx) rv (λs3 I5=>assignInOrder_nil (Ab1 ?_)) (.inr hx)));rw[List.set_comm _ _ (Ne.symm hij)] at I5;exact⟨_,H1,I5,q1⟩
def ud6(i:Nat)(te:TE)(ti:TIp):TS:=λD σ H=>∃x,σ[i]?=some (some x)/\te σ H λy H1=>ti x y H1 λz H2=>D.nx (σ.set i (some z)) H2
def wp4{i:Nat}{x:Str}{e:Expr}{te:TE}{op:Operator}{ti:TIp}{pos':Pos}(hN:X.N.Nodup)(hi:X.N[i]?=some x)(hx:Loc X.env.scope x)(he:PE X e te)(ho:PIp X op ti)(hf:X.fn x=true\/X.env.scope.names.lookup x=some .local:=by first | exact .inl rfl | exact .inr rfl | assumption) :
 PS X (.AugAssign (.Name x pos') op e pos) (ud6 i te ti):=by
 intro A3 s σ H D I h;obtain⟨v,e1,h⟩:=h;obtain⟨m,hn,hl⟩:=I.loc;have vis:Vis X.env.scope x:=by rcases hx with k | k;exact .inl k;exact .inr (.inl k)
 obtain⟨u,r,l⟩:=hl i x v hi e1 vis;refine wpAny_AugAssign_Name ?_;have go:wpAny (model X.prog X.w) X.A (eval e X.env) (λw s₂=>wpAny (model X.prog X.w) X.A (inplaceOp op u w) (λr s₃=>wpAny (model X.prog X.w) X.A (storeName X.env x r) (λ_=>SP X A3 D .next) X.xe s₃) X.xe s₂) X.xe s:=by
  refine thn (he A3 s σ H _ I h) λw s1 hI71=>?_
  obtain⟨y,H1,I1,r1,q1⟩:=hI71;refine thn (ho A3 s1 σ H1 v y u w _ I1 r r1 q1) λz s2 hI72=>?_
  obtain⟨zv,H2,I2,r2,q2⟩:=hI72;exact zh1 I2 hN hi hx r2 (λs3 I3=>⟨_,H2,I3,q2⟩) hf
 rcases l with⟨hk,hm⟩ | ⟨hk,c,hc,hcell⟩
 ·exact wpAny_loadName_local I.ok.kind hk hn hm go
 ·rcases hk with hk | hk
  ·exact wpAny_loadName_cell I.ok.kind hk hc hcell go
  ·rcases hx with k | k
   ·have:X.env.scope.names.lookup x=some .free:=hk
    rw[k] at this;cases this
   ·have:X.env.scope.names.lookup x=some .free:=hk
    rw[k] at this;cases this
def ipI(f:Int->Int->Int):TIp:=λx y H Q=>∃i j,x=.int i/\y=.int j/\Q (.int (f i j)) H
def ws3:PIp X .Add (ipI λi j=>i+j):=by
 intro A3 s σ H x y v u Q I r1 r2 h;obtain⟨i,j,e1,e2,q⟩:=h;subst e1;subst e2;obtain⟨t,rfl⟩:=r1;obtain⟨t',rfl⟩:=r2;exact iadd_int ⟨.int _,H,I.tok _,⟨_,rfl⟩,q⟩
def wn7(c:TT)(tb:TS):TS:=λD σ H=>∃W:Nat->St->Hp->Prop,(∃m,W m σ H)/\∀m σ H,W m σ H->
 c σ H λb H1=>if b=true then ∃N:St->Hp->Prop,(∀σ' H',N σ' H'->∃m',m' < m/\W m' σ' H')/\tb { D with nx:=N,ct:=N,bk:=D.nx } σ H1 else D.nx σ H1
open H in
theorem xz2{c:Expr}{body:List Stmt}{tc:TT}{tb:TS}(hp:PassesOwn (model X.prog X.w) X.A X.env X.xe)(hc:PT X c tc)(hb:PSs X body tb):PS X (.While c body [] pos) (wn7 tc tb):=by
 intro A3 s σ H D I h;obtain⟨W,⟨m0,w0⟩,turn⟩:=h;refine wpAny_While (codeAny_whileLoop (λn s'=>∃σ' H',Inv X A3 σ' H' s'/\W n σ' H') ?_ m0 ⟨σ,H,I,w0⟩);rintro n s1 ⟨σ1,H1,I1,w1⟩;refine wpAny_passesOwn hp (thn (hc A3 s1 σ1 H1 _ I1 (turn n σ1 H1 w1)) λb s2 hI73=>?_);obtain⟨H2,I2,q2⟩:=hI73;cases b with
 | true=>
   obtain⟨N,hN,q2⟩:=q2;rw[if_pos rfl];refine wpAny_passesOwn hp (thn (hb A3 s2 σ1 H2 _ I2 q2) λf s3 q3=>?_);cases f with
   | next=>
     obtain⟨σ3,H3,I3,n3⟩:=q3;obtain⟨m',hm,w3⟩:=hN σ3 H3 n3;exact⟨m',hm,σ3,H3,I3,w3⟩
   | cont=>
     obtain⟨σ3,H3,I3,n3⟩:=q3;obtain⟨m',hm,w3⟩:=hN σ3 H3 n3;exact⟨m',hm,σ3,H3,I3,w3⟩
   | brk=>exact q3
   | ret v=>exact q3
 | false=>
   rw[if_neg Bh0];exact wpAny_execs_nil ⟨σ1,H2,I2,q2⟩
end
structure It where
 go:Nat->Hp->Prop
 yld:Nat->Hp->V->Hp->Prop
 stop:Nat->Hp->Prop
def vd4(X:Cx)(A3:List (Addr×Obj))(H:Hp)(b:Addr):Prop:=
 H b=none/\b≠X.env.locals/\b∉X.fs/\(b∈X.ex\/X.s₀.heap.objs.size<=b)/\(∀x c,X.env.cells.lookup x=some c->c≠b)/\∀p∈X.pn++A3,p.1≠b
def Inv.fpOk{X:Cx}{A3:List (Addr×Obj)}{σ:St}{H H':Hp}{s:Shared}{b:Addr}(I:Inv X A3 σ H s)(hb:s.heap.objs.size<=b)(hn:H' b=none):vd4 X A3 H' b:=by
 refine⟨hn,By0 (Ap0 I.lt hb),I.nofs hb,.inr (Av0 I.sz hb),λx c e z=>?_,λp hp z=>?_⟩
 ·obtain⟨v,q⟩:=I.cell x c e
  exact absurd (Ap0 q.lt (by rw[z];exact hb)) (Bc0 _)
 ·exact absurd (Ap0 (Heap.lt_size (I.pin p hp).1) (by rw[z];exact hb)) (Bc0 _)
structure vj7(P:Program)(w:World)(K:PySem.W.Frag)(tg:Expr)(J:It)(fp:List Addr)(it:Addr)(tn:Nat->Heap->Prop):Prop where
 mem:it∈fp
 obj:∀i h,tn i h->∀b∈fp,∃o,h.get? b=some o/\∀v,o.data≠.cell v
 keep:∀i h h',tn i h->(∀b∈fp,∀o,h.get? b=some o->h'.get? b=some o)->tn i h'
 item:∀(X:Cx),X.prog=P->X.w=w->X.K=K->X.calm=true->∀(i:Nat) (A3:List (Addr×Obj)) (s:Shared) (σ:St) (H:Hp) (E:Value->Shared->Prop),Inv X A3 σ H s->(∀b∈fp,vd4 X A3 H b)->tn i s.heap->J.go i H->
  wpAny (model P w) X.A (pyNext (.ref it)) (λr s1=>∃u,r=some u/\
   wpAny (model P w) X.A (letOwnedTupleGo tg (.ref it) u) (λ_ s2=>∃x H',Inv X A3 σ H' s2/\wv5 x u/\J.yld i H x H'/\tn (i+1) s2.heap/\∀b∈fp,H' b=none) E s1) E s
 done:∀(X:Cx),X.prog=P->X.w=w->X.K=K->X.calm=true->∀(i:Nat) (A3:List (Addr×Obj)) (s:Shared) (σ:St) (H:Hp) (E:Value->Shared->Prop),Inv X A3 σ H s->(∀b∈fp,vd4 X A3 H b)->tn i s.heap->J.stop i H->
  wpAny (model P w) X.A (pyNext (.ref it)) (λr s1=>r=none/\Inv X A3 σ H s1) E s
 self:∀(A:Around) (i:Nat) (s:Shared) (Q:Value->Shared->Prop) (E:Value->Shared->Prop),tn i s.heap->Q (.ref it) s->wpAny (model P w) A (pyIter (.ref it)) Q E s
abbrev TI:=St->Hp->(It->Hp->Prop)->Prop
def PIE(X:Cx)(A3:List (Addr×Obj))(σ:St)(tg:Expr)(R:It->Hp->Prop)(itv:Value)(s2:Shared):Prop:=
 ∃(it:Addr) (fp:List Addr) (tn:Nat->Heap->Prop) (J:It) (H':Hp),itv=.ref it/\Inv X A3 σ H' s2/\vj7 X.prog X.w X.K tg J fp it tn/\tn 0 s2.heap/\(∀b∈fp,vd4 X A3 H' b)/\R J H'
def PI(X:Cx)(tg iter:Expr)(wi:TI):Prop:=
 ∀(A3:List (Addr×Obj)) (s:Shared) (σ:St) (H:Hp) (R:It->Hp->Prop),Inv X A3 σ H s->wi σ H R->
  wpAny (model X.prog X.w) X.A (eval iter X.env) (λv s1=>wpAny (model X.prog X.w) X.A (pyIter v) (PIE X A3 σ tg R) X.xe s1) X.xe s
def vm2{n:String}(ho:s.heap.get? it=some o)(hc:o.cls=.type n)(hd:o.data=.fields vs)(hn:["enumerate","zip","dict_itemiterator","dict_reverseitemiterator","odict_iterator","itertools.zip_longest","itertools.pairwise"].contains n=false)(hQ:Q () s):wpAny M A (letOwnedTupleGo tg (.ref it) u) Q E s:=by
 unfold letOwnedTupleGo;cases tg<;>first
  | exact Ab1 hQ
  | (cases u<;>first
   | exact Ab1 hQ
   | (refine Aa1 (wpAny_load ho ?_)
      rw[hc,hd];show wpAny M A (if (["enumerate","zip","dict_itemiterator","dict_reverseitemiterator","odict_iterator","itertools.zip_longest","itertools.pairwise"].contains n&&vs[0]? == some (rawInt _))=true then _ else _) Q E s;rw[if_neg (by intro h;rw[hn,Bool.false_and] at h;cases h)];exact Ab1 hQ))
def Itl(K:PySem.W.Frag)(a:Addr):It:=
 ⟨λi H=>∃xs x,SqL K H a xs/\xs[i]?=some x,λi H x H'=>H'=H/\∀xs,SqL K H a xs->xs[i]?=some x,λi H=>∃xs,SqL K H a xs/\xs.length<=i⟩
def Itt(K:PySem.W.Frag)(a:Addr):It:=
 ⟨λi H=>∃xs x,SqT K H a xs/\xs[i]?=some x,λi H x H'=>H'=H/\∀xs,SqT K H a xs->xs[i]?=some x,λi H=>∃xs,SqT K H a xs/\xs.length<=i⟩
def Itr(lo:Int)(n:Nat):It:=⟨λi _=>i<n,λi H x H'=>H'=H/\x=.int (lo+i),λi _=>n<=i⟩
def xo3{P:Program}{w:World}{K:PySem.W.Frag}{tg:Expr}(a it:Addr):vj7 P w K tg (Itl K a) [it] it (λi h=>h.IsListIter it a i) where
 mem:=by simp
 obj:=λi h st b hb=>by
  have e:b=it:=by simpa using hb
  subst e;obtain⟨o,e,c,d⟩:=st;exact⟨o,e,λv z=>by rw[d] at z;cases z⟩
 keep:=λi h h' st k=>st.at λo e=>k it (by simp) o e
 item:=by
  intro X hP hw hK hc i A3 s σ H E I hf st hg;subst hP hw hK;obtain⟨xs,x,hq,hx⟩:=hg;obtain⟨its,rv,p,hz⟩:=I.list hq;obtain⟨u,hu,ru⟩:=rv.get hx;obtain⟨f0,f1,f2,f3,f4,f5⟩:=hf it (by simp);refine wpAny_pyNext_list_item st p.isList (x:=u) (by simpa using hu) λh' st' sb=>?_
  have I1:Inv X A3 σ H { s with heap:=h' }:=I.turned (t':=s.toks) (λb o hb e=>(sb.2 b hb).trans e) f0 f1 f3 f4 f5;obtain⟨o,e,c,d⟩:=id st';exact⟨u,rfl,vm2 (s:={ s with heap:=h' }) e c d (by decide) ⟨x,H,I1,ru,⟨rfl,λys hy=>by rw[I.list_inj hy hq];exact hx⟩,st',λb hb=>(hf b hb).1⟩⟩
 done:=by
  intro X hP hw hK hc i A3 s σ H E I hf st hg;subst hP hw hK;obtain⟨xs,hq,hx⟩:=hg;obtain⟨its,rv,p,hz⟩:=I.list hq;obtain⟨f0,f1,f2,f3,f4,f5⟩:=hf it (by simp);have hl:=rv.length;exact wpAny_pyNext_list_end (I.ok.hd hc) st p.isList (by simp;omega) λh' eb=>⟨rfl,I.turned (t':=s.toks) (λb o hb e=>eb b o hb e) f0 f1 f3 f4 f5⟩
 self:=λ_ _ _ _ _ st h=>wpAny_pyIter_listiter st h
def xk4{P:Program}{w:World}{K:PySem.W.Frag}{tg:Expr}(a it:Addr):vj7 P w K tg (Itt K a) [it] it (λi h=>h.IsTupleIter it a i) where
 mem:=by simp
 obj:=λi h st b hb=>by
  have e:b=it:=by simpa using hb
  subst e;obtain⟨o,e,c,d⟩:=st;exact⟨o,e,λv z=>by rw[d] at z;cases z⟩
 keep:=λi h h' st k=>st.at λo e=>k it (by simp) o e
 item:=by
  intro X hP hw hK hc i A3 s σ H E I hf st hg;subst hP hw hK;obtain⟨xs,x,hq,hx⟩:=hg;obtain⟨its,rv,p,hz⟩:=I.tuple hq;obtain⟨u,hu,ru⟩:=rv.get hx;obtain⟨f0,f1,f2,f3,f4,f5⟩:=hf it (by simp);refine wpAny_pyNext_tuple_item st (show s.heap.IsTuple a its.toArray from p) (x:=u) (by simpa using hu) λh' st' sb=>?_
  have I1:Inv X A3 σ H { s with heap:=h' }:=I.turned (t':=s.toks) (λb o hb e=>(sb.2 b hb).trans e) f0 f1 f3 f4 f5;obtain⟨o,e,c,d⟩:=id st';exact⟨u,rfl,vm2 (s:={ s with heap:=h' }) e c d (by decide) ⟨x,H,I1,ru,⟨rfl,λys hy=>by rw[I.tuple_inj hy hq];exact hx⟩,st',λb hb=>(hf b hb).1⟩⟩
 done:=by
  intro X hP hw hK hc i A3 s σ H E I hf st hg;subst hP hw hK;obtain⟨xs,hq,hx⟩:=hg;obtain⟨its,rv,p,hz⟩:=I.tuple hq;obtain⟨f0,f1,f2,f3,f4,f5⟩:=hf it (by simp);have hl:=rv.length;exact wpAny_pyNext_tuple_end (I.ok.hd hc) st (show s.heap.IsTuple a its.toArray from p) (by simp;omega) λh' eb=>⟨rfl,I.turned (t':=s.toks) (λb o hb e=>eb b o hb e) f0 f1 f3 f4 f5⟩
 self:=λ_ _ _ _ _ st h=>wpAny_pyIter_tupleiter st h
def xk5{P:Program}{w:World}{K:PySem.W.Frag}{tg:Expr}(it:Addr)(lo:Int)(n:Nat):vj7 P w K tg (Itr lo n) [it] it (λi h=>IsRangeIter h it (lo+(i:Nat)*1) ((n:Int)-(i:Nat)) 1) where
 mem:=by simp
 obj:=λi h st b hb=>by
  have e:b=it:=by simpa using hb
  subst e;exact⟨_,st,λv z=>by
   have z':Data.fields _=Data.cell v:=z;cases z'⟩
 keep:=λi h h' st k=>k it (by simp) _ st
 item:=by
  intro X hP hw hK hc i A3 s σ H E I hf st hg;subst hP hw hK;obtain⟨f0,f1,f2,f3,f4,f5⟩:=hf it (by simp);have W:=Walks.range (prog:=X.prog) (w:=X.w) (I.ok.hd hc) it lo 1 n;refine W.item i s _ _ hg st λv h' tk hv st' kk=>?_
  obtain⟨t,rfl⟩:=hv;have I1:Inv X A3 σ H { s with heap:=h',toks:=tk }:=I.turned (λb o hb e=>kk b o (by simpa using hb) e) f0 f1 f3 f4 f5;refine⟨_,rfl,vm2 (s:={ s with heap:=h',toks:=tk }) (n:="range_iterator") st' rfl rfl (by decide) ⟨.int (lo+i),H,I1,⟨t,?_⟩,⟨rfl,rfl⟩,st',λb hb=>(hf b hb).1⟩⟩;rw[Int.mul_one]
 done:=by
  intro X hP hw hK hc i A3 s σ H E I hf st hg;subst hP hw hK;obtain⟨f0,f1,f2,f3,f4,f5⟩:=hf it (by simp);exact wpAny_pyNext_range_end (I.ok.hd hc) st (by have:n<=i:=hg;omega) λh' eb=>⟨rfl,I.turned (t':=s.toks) (λb o hb e=>eb b o hb e) f0 f1 f3 f4 f5⟩
 self:=λ_ _ _ _ _ st h=>wpAny_pyIter_rangeiter st h
section
variable{X:Cx}{tg:Expr}
def vw6(K:PySem.W.Frag)(tl:TE):TI:=λσ H R=>tl σ H λx H1=>∃a,x=.ref a/\(∃xs,SqL K H1 a xs)/\R (Itl K a) H1
def ue5(K:PySem.W.Frag)(tl:TE):TI:=λσ H R=>tl σ H λx H1=>∃a,x=.ref a/\(∃xs,SqT K H1 a xs)/\R (Itt K a) H1
def wi7{l:Expr}{tl:TE}(hl:PE X l tl):PI X tg l (vw6 X.K tl):=by
 intro A3 s σ H R I h;refine thn (hl A3 s σ H _ I h) λv s1 hI74=>?_
 obtain⟨x,H1,I1,r1,q1⟩:=hI74;obtain⟨a,e,⟨xs,hq⟩,q⟩:=q1;subst e;cases r1;obtain⟨its,rv,p,hz⟩:=I1.list hq;refine wpAny_pyIter_list p.isList ?_;refine⟨s1.heap.objs.size,[s1.heap.objs.size],_,_,H1,rfl,I1.kept (t':=s1.toks) λb o e=>Ab0 _ e,xo3 a _,⟨_,Ak0 _ rfl,rfl,rfl⟩,λb hb=>?_,q⟩;have e:b=s1.heap.objs.size:=by simpa using hb
 subst e;exact I1.fpOk (Al0 _) (I1.hok.fresh (Al0 _))
def wp7{l:Expr}{tl:TE}(hl:PE X l tl):PI X tg l (ue5 X.K tl):=by
 intro A3 s σ H R I h;refine thn (hl A3 s σ H _ I h) λv s1 hI75=>?_
 obtain⟨x,H1,I1,r1,q1⟩:=hI75;obtain⟨a,e,⟨xs,hq⟩,q⟩:=q1;subst e;cases r1;obtain⟨its,rv,p,hz⟩:=I1.tuple hq;refine wpAny_pyIter_tuple (show s1.heap.IsTuple a its.toArray from p) ?_;refine⟨s1.heap.objs.size,[s1.heap.objs.size],_,_,H1,rfl,I1.kept (t':=s1.toks) λb o e=>Ab0 _ e,xk4 a _,⟨_,Ak0 _ rfl,rfl,rfl⟩,λb hb=>?_,q⟩;have e:b=s1.heap.objs.size:=by simpa using hb
 subst e;exact I1.fpOk (Al0 _) (I1.hok.fresh (Al0 _))
def xz0{A3:List (Addr×Obj)}{σ:St}{H:Hp}{s:Shared}{R:It->Hp->Prop}{E:Value->Shared->Prop}{lo hi:Int}{t u v:Tok}{tk:Nat}(I:Inv X A3 σ H s)(h1:-(2 ^ 62)<=lo)(h2:lo<2 ^ 62)(h3:-(2 ^ 62)<=hi)(h4:hi<2 ^ 62)(q:R (Itr lo (hi-lo).toNat) H):wpAny (model X.prog X.w) X.A (pyIter (.ref s.heap.objs.size)) (PIE X A3 σ tg R) E { s with heap:=s.heap.push { cls:=.type "range",data:=.fields #[.int lo t,.int hi u,.int 1 v] },toks:=tk }:=by
 refine wpAny_pyIter_range (IsRange.new ..) (small_one h1 h2 h3 h4) ?_;have I1:Inv X A3 σ H { s with heap:=s.heap.push { cls:=.type "range",data:=.fields #[.int lo t,.int hi u,.int 1 v] },toks:=tk }:=I.kept λb o e=>Ab0 _ e
 refine⟨(s.heap.push { cls:=.type "range",data:=.fields #[.int lo t,.int hi u,.int 1 v] }).objs.size,[(s.heap.push { cls:=.type "range",data:=.fields #[.int lo t,.int hi u,.int 1 v] }).objs.size],_,_,H,rfl,I1.kept (t':=tk) λb o e=>Ab0 _ e,xk5 _ lo (hi-lo).toNat,?_,λb hb=>?_,q⟩
 ·have e1:lo+((0:Nat):Int)*1=lo:=by simp
  have e2:(((hi-lo).toNat:Nat):Int)-((0:Nat):Int)=Builtin.Range.rangeSize lo hi 1:=by rw[rangeSize_one];split<;>omega
  show IsRangeIter _ _ (lo+((0:Nat):Int)*1) ((((hi-lo).toNat:Nat):Int)-((0:Nat):Int)) 1;rw[e1,e2];exact Ak0 _ rfl
 ·have e:b=(s.heap.push { cls:=.type "range",data:=.fields #[.int lo t,.int hi u,.int 1 v] }).objs.size:=by simpa using hb
  subst e;exact I1.fpOk (Al0 _) (I1.hok.fresh (Al0 _))
def vw5(ta:TA):TI:=λσ H R=>ta σ H λvs H1=>∃j:Int,vs=[.int j]/\-(2 ^ 62)<=j/\j<2 ^ 62/\R (Itr 0 j.toNat) H1
theorem xq8{a:Expr}{ta:TA}{p pos:Pos}(hg:Gl X "range")(hm:X.mg "range" = none)(ha:PA X [a] ta)(hs:starEach [a] X.env=[(false,eval a X.env)]:=by rfl):PI X tg (.Call (.Name "range" p) [a] [] pos) (vw5 ta):=by
 intro A3 s σ H R I h;refine Call_ (ya7 I hg hm boot_range (PyProof.Rows.callWith_type1 (thn (ha pos A3 s σ H _ I h) λus s1 hI76=>?_) hs rfl));obtain⟨vs,H1,I1,r1,q1⟩:=hI76;obtain⟨j,e,q1,q2,q⟩:=q1;subst e;cases r1 with
 | cons r rr=>
   cases rr;obtain⟨t,rfl⟩:=r;exact call_range_1 (xz0 I1 (by omega) (by omega) q1 q2 (by simpa using q))
def ud3(wi:TI)(g:TG)(tb:TS):TS:=λD σ H=>wi σ H λJ H1=>∃W:Nat->Nat->St->Hp->Prop,(∃m,W 0 m σ H1)/\∀i m σ H,W i m σ H->
 (J.stop i H/\D.nx σ H)\/(J.go i H/\∃N:St->Hp->Prop,(∀σ' H',N σ' H'->∃m',m' < m/\W (i+1) m' σ' H')/\∀x H',J.yld i H x H'->g x σ H' λσ2 H2=>tb { D with nx:=N,ct:=N,bk:=D.nx } σ2 H2)
def yu6(fp:List Addr)(h:Heap):List (Addr×Obj):=fp.filterMap λb=>(h.get? b).map λo=>(b,o)
def zw8{fp:List Addr}{h:Heap}{b:Addr}{o:Obj}(hb:b∈fp)(e:h.get? b=some o):(b,o)∈yu6 fp h:=List.mem_filterMap.mpr ⟨b,hb,by rw[e];rfl⟩
theorem xs1(hp:p∈yu6 fp h):p.1∈fp/\h.get? p.1=some p.2:=by
 obtain⟨b,hb,e⟩:=List.mem_filterMap.mp hp;cases q:h.get? b with
 | none=>rw[q] at e;cases e
 | some o=>
   rw[q] at e;have e':(b,o)=p:=Option.some.inj e;subst e';exact⟨hb,q⟩
def Inv.pinned{A3:List (Addr×Obj)}{σ:St}{H:Hp}{s:Shared}{fp:List Addr}(I:Inv X A3 σ H s)(hf:∀b∈fp,vd4 X A3 H b)(ho:∀b∈fp,∃o,s.heap.get? b=some o/\∀v,o.data≠.cell v):Inv X (A3++yu6 fp s.heap) σ H s:=
 I.pins_of λp hp=>(Ay0.mp hp).elim (λz=>I.pin p (Am0 _ z)) λz=>by
  obtain⟨hb,e⟩:=xs1 z;obtain⟨f0,f1,f2,_⟩:=hf p.1 hb;obtain⟨o,e',d⟩:=ho p.1 hb;rw[e] at e';cases e';exact⟨e,f0,f1,f2,d⟩
def Inv.unpinned{A3 pl:List (Addr×Obj)}{σ:St}{H:Hp}{s:Shared}(I:Inv X (A3++pl) σ H s):Inv X A3 σ H s:=I.pins_of λp hp=>I.pin p (Am0 _ (Bd0 _ hp))
open H in
def wp3{iter:Expr}{body:List Stmt}{wi:TI}{g:TG}{tb:TS}{pos:Pos}(hp:PassesOwn (model X.prog X.w) X.A X.env X.xe)(hc:X.calm=true)(hi:PI X tg iter wi)(hg:PG X tg g)(hb:PSs X body tb)(hs:∀x,foldedSetIterable iter X.env x=pure x:=by intro _;rfl):PS X (.For tg iter body [] pos) (ud3 wi g tb):=by
 intro A3 s σ H D I h;refine wpAny_For (thn (hi A3 s σ H _ I h) λv s1 h1=>thn h1 λitv s2 h2=>?_) hs;obtain⟨it,fp,tn,J,H2,e,I2,T,st2,f2,W,⟨m0,w0⟩,turn⟩:=h2;subst e
 -- what stays true of the iterator's objects through the loop
 have stat:∀{H':Hp},(∀b∈fp,H' b=none)->∀b∈fp,vd4 X A3 H' b:=λhn b hb=>⟨hn b hb,(f2 b hb).2⟩
 refine codeAny_forLoop_any (λn s'=>∃i σ' H',Inv X A3 σ' H' s'/\tn i s'.heap/\(∀b∈fp,H' b=none)/\W i n σ' H') ?_ m0 ⟨0,σ,H2,I2,st2,λb hb=>(f2 b hb).1,w0⟩;rintro n s3 ⟨i,σ3,H3,I3,st3,fr3,w3⟩;rcases turn i n σ3 H3 w3 with⟨stop,qn⟩ | ⟨go,N,hN,step⟩
 ·refine wpAny_passesOwn hp (thn (T.done X rfl rfl rfl hc i A3 s3 σ3 H3 X.xe I3 (stat fr3) st3 stop) λr s4 hI77=>?_)
  obtain⟨hr,I4⟩:=hI77;subst hr;exact wpAny_execs_nil ⟨σ3,H3,I4,qn⟩
 ·refine wpAny_passesOwn hp (thn (T.item X rfl rfl rfl hc i A3 s3 σ3 H3 X.xe I3 (stat fr3) st3 go) λr s4 hI78=>?_)
  obtain⟨u,hr,h4⟩:=hI78;subst hr;refine wpAny_passesOwn hp (thn h4 λ_ s5 hI79=>?_);obtain⟨x,H5,I5,r5,y5,st5,fr5⟩:=hI79;have I5':=I5.pinned (stat fr5) (T.obj _ _ st5);refine wpAny_passesOwn hp (thn (hg _ s5 σ3 H5 x u _ I5' r5 (step x H5 y5)) λ_ s6 hI80=>?_);obtain⟨σ6,H6,I6,q6⟩:=hI80;refine wpAny_passesOwn hp (thn (hb _ s6 σ6 H6 _ I6 q6) λf s7 q7=>?_);have again:∀{σ7:St} {H7:Hp},Inv X (A3++yu6 fp s5.heap) σ7 H7 s7->N σ7 H7->∃m,m<n/\∃i σ' H',Inv X A3 σ' H' s7/\tn i s7.heap/\(∀b∈fp,H' b=none)/\W i m σ' H':=λ{σ7 H7} I7 n7=>by
   obtain⟨m',hm,w7⟩:=hN σ7 H7 n7;refine⟨m',hm,i+1,σ7,H7,I7.unpinned,T.keep _ _ _ st5 λb hb o e=>(I7.pin (b,o) (Am0 _ (Am0 _ (zw8 hb e)))).1,λb hb=>?_,w7⟩;obtain⟨o,e,d⟩:=T.obj _ _ st5 b hb;exact(I7.pin (b,o) (Am0 _ (Am0 _ (zw8 hb e)))).2.1
  cases f with
  | next=>obtain⟨σ7,H7,I7,n7⟩:=q7;exact again I7 n7
  | cont=>obtain⟨σ7,H7,I7,n7⟩:=q7;exact again I7 n7
  | brk=>obtain⟨σ7,H7,I7,q7⟩:=q7;exact⟨σ7,H7,I7.unpinned,q7⟩
  | ret v=>obtain⟨x7,σ7,H7,I7,r7,q7⟩:=q7;exact⟨x7,σ7,H7,I7.unpinned,r7,q7⟩
end
abbrev R2:=V->V->Hp->VK->Prop
def OpR(X:Cx)(f:Value->Value->Sem Value)(r:R2):Prop:=
 ∀(A3:List (Addr×Obj)) (s:Shared) (σ:St) (H:Hp) (x y:V) (v u:Value) (Q:VK),Inv X A3 σ H s->wv5 x v->wv5 y u->r x y H Q->
  wpAny (model X.prog X.w) X.A (f v u) (EP X A3 σ Q) X.xe s
def UnR(X:Cx)(f:Value->Sem Value)(r:V->Hp->VK->Prop):Prop:=
 ∀(A3:List (Addr×Obj)) (s:Shared) (σ:St) (H:Hp) (x:V) (v:Value) (Q:VK),Inv X A3 σ H s->wv5 x v->r x H Q->
  wpAny (model X.prog X.w) X.A (f v) (EP X A3 σ Q) X.xe s
def wy3(X:Cx)(f:Value)(r:List V->Hp->VK->Prop):Prop:=
 ∀(A3:List (Addr×Obj)) (s:Shared) (σ:St) (H:Hp) (xs:List V) (us:List Value) (Q:VK),Inv X A3 σ H s->wv6 xs us->r xs H Q->
  wpAny (model X.prog X.w) X.A (call f us) (EP X A3 σ Q) X.xe s
def tOp(r:R2)(ta tb:TE):TE:=λσ H Q=>ta σ H λx H1=>tb σ H1 λy H2=>r x y H2 Q
def tUn(r:V->Hp->VK->Prop)(ta:TE):TE:=λσ H Q=>ta σ H λx H1=>r x H1 Q
def rI(C:Int->Int->Prop)(g:Int->Int->V):R2:=λx y H Q=>∃i j,x=.int i/\y=.int j/\C i j/\Q (g i j) H
def rI0(g:Int->Int->V):R2:=λx y H Q=>∃i j,x=.int i/\y=.int j/\Q (g i j) H
def rU(g:Int->V):V->Hp->VK->Prop:=λx H Q=>∃i,x=.int i/\Q (g i) H
section
variable{X:Cx}{a b c:Expr}{ta tb tc:TE}{pos:Pos}
def vy7(ha:PE X a ta)(hb:PE X b tb){A3:List (Addr×Obj)}{s:Shared}{σ:St}{H:Hp}{R:V->V->Hp->Prop}(I:Inv X A3 σ H s)(h:ta σ H λx H1=>tb σ H1 λy H2=>R x y H2){Q:Value->Shared->Prop}{f:Value->Value->Sem Value}(hf:∀v u s2 x y H2,Inv X A3 σ H2 s2->wv5 x v->wv5 y u->R x y H2->wpAny (model X.prog X.w) X.A (f v u) Q X.xe s2) :
 wpAny (model X.prog X.w) X.A (eval a X.env) (λv s₁=>wpAny (model X.prog X.w) X.A (eval b X.env) (λu s₂=>wpAny (model X.prog X.w) X.A (f v u) Q X.xe s₂) X.xe s₁) X.xe s:=by
 refine thn (ha A3 s σ H _ I h) λv s1 hI81=>?_
 obtain⟨x,H1,I1,r1,q1⟩:=hI81;refine thn (hb A3 s1 σ H1 _ I1 q1) λu s2 hI82=>?_
 obtain⟨y,H2,I2,r2,q2⟩:=hI82;exact hf v u s2 x y H2 I2 r1 r2 q2
def wx6{op:Operator}{r:R2}(ho:OpR X (binaryOp op) r)(ha:PE X a ta)(hb:PE X b tb):PE X (.BinOp a op b pos) (tOp r ta tb):=by
 intro A3 s σ H Q I h;exact wpAny_BinOp (vy7 ha hb I h λv u s2 x y H2 I2 rx ry q=>ho A3 s2 σ H2 x y v u Q I2 rx ry q)
def vv0{op:UnaryOp}{r:V->Hp->VK->Prop}(ho:UnR X (unaryOp op) r)(ha:PE X a ta):PE X (.UnaryOp op a pos) (tUn r ta):=by
 intro A3 s σ H Q I h;exact UnaryOp_ (thn (ha A3 s σ H _ I h) λv s1 ⟨x,H1,I1,r1,q1⟩=>ho A3 s1 σ H1 x v Q I1 r1 q1)
def opI{f:Value->Value->Sem Value}{C:Int->Int->Prop}{g:Int->Int->Int}(rule:∀(i j:Int) (t u:Tok) (s:Shared) (Q:Value->Shared->Prop) (E:Value->Shared->Prop),C i j->Q (.int (g i j) s.toks) { s with toks:=s.toks+1 }->wpAny (model X.prog X.w) X.A (f (.int i t) (.int j u)) Q E s) :
 OpR X f (rI C λi j=>.int (g i j)):=by
 intro A3 s σ H x y v u Q I rx ry h;obtain⟨i,j,rfl,rfl,hc,q⟩:=h;obtain⟨t,rfl⟩:=rx;obtain⟨t',rfl⟩:=ry;exact rule i j t t' s _ _ hc ⟨.int (g i j),H,I.tok _,⟨_,rfl⟩,q⟩
def ua2{f:Value->Value->Sem Value}{g:Int->Int->Int}(rule:∀(i j:Int) (t u:Tok) (s:Shared) (Q:Value->Shared->Prop) (E:Value->Shared->Prop),Q (.int (g i j) s.toks) { s with toks:=s.toks+1 }->wpAny (model X.prog X.w) X.A (f (.int i t) (.int j u)) Q E s) :
 OpR X f (rI0 λi j=>.int (g i j)):=by
 intro A3 s σ H x y v u Q I rx ry h;obtain⟨i,j,rfl,rfl,q⟩:=h;obtain⟨t,rfl⟩:=rx;obtain⟨t',rfl⟩:=ry;exact rule i j t t' s _ _ ⟨.int (g i j),H,I.tok _,⟨_,rfl⟩,q⟩
def vr0{f:Value->Value->Sem Value}{g:Int->Int->Bool}(rule:∀(i j:Int) (t u:Tok) (s:Shared) (Q:Value->Shared->Prop) (E:Value->Shared->Prop),Q (.bool (g i j)) s->wpAny (model X.prog X.w) X.A (f (.int i t) (.int j u)) Q E s) :
 OpR X f (rI0 λi j=>.bl (g i j)):=by
 intro A3 s σ H x y v u Q I rx ry h;obtain⟨i,j,rfl,rfl,q⟩:=h;obtain⟨t,rfl⟩:=rx;obtain⟨t',rfl⟩:=ry;exact rule i j t t' s _ _ ⟨.bl (g i j),H,I,rfl,q⟩
def vs1(i j:Int):Prop:=0<j/\j<1073741824
def vq3(i j:Int):Prop:=j≠0/\j.natAbs<1073741824
def vr9(i j:Int):Prop:=0<=j/\j<=1000000/\i.natAbs<2 ^ 64
def vd7(i j:Int):Prop:=(-(2 ^ 64)<i/\i<2 ^ 64)\/(-(2 ^ 64)<j/\j<2 ^ 64)
def vd7.ok{i j:Int}(h:vd7 i j):IntMulOk i j:=by
 rcases h with⟨h1,h2⟩ | ⟨h1,h2⟩
 ·exact .of_left (intBits_le_64 h1 h2)
 ·exact .of_right (intBits_le_64 h1 h2)
def yv1:OpR X (binaryOp .Add) (rI0 λi j=>.int (i+j)):=ua2 λ_ _ _ _ _ _ _ q=>add_int q
def yd7:OpR X (binaryOp .Sub) (rI0 λi j=>.int (i-j)):=ua2 λ_ _ _ _ _ _ _ q=>sub_int q
def yh9:OpR X (binaryOp .Mult) (rI vd7 λi j=>.int (i*j)):=opI λ_ _ _ _ _ _ _ hc q=>mul_int q hc.ok
def wj2:OpR X (binaryOp .FloorDiv) (rI vs1 λi j=>.int (i / j)):=opI λi j _ _ _ _ _ hc q=>by
 have h1:(0:Int)<j:=hc.1;have h2:j<1073741824:=hc.2;exact floordiv_int (by omega) (by rw[Int.fdiv_eq_ediv_of_nonneg i (by omega)];exact q) (.inl (PyProof.noPylong_small (by omega)))
def zu3:OpR X (binaryOp .Mod) (rI (λ_ j=>0<j) λi j=>.int (i % j)):=opI λi j _ _ _ _ _ hc q=>by
 have h1:(0:Int)<j:=hc;exact mod_int' (by omega) (by rw[Int.fmod_eq_emod_of_nonneg i (by omega)];exact q)
def we6:OpR X (binaryOp .Pow) (rI vr9 λi j=>.int (i ^ j.toNat)):=opI λ_ _ _ _ _ _ _ hc q=>pow_int_small hc.1 hc.2.1 hc.2.2 q
def unI{f:Value->Sem Value}{g:Int->Int}(rule:∀(i:Int) (t:Tok) (s:Shared) (Q:Value->Shared->Prop) (E:Value->Shared->Prop),Q (.int (g i) s.toks) { s with toks:=s.toks+1 }->wpAny (model X.prog X.w) X.A (f (.int i t)) Q E s) :
 UnR X f (rU λi=>.int (g i)):=by
 intro A3 s σ H x v Q I rx h;obtain⟨i,rfl,q⟩:=h;obtain⟨t,rfl⟩:=rx;exact rule i t s _ _ ⟨.int (g i),H,I.tok _,⟨_,rfl⟩,q⟩
def wn5:UnR X (unaryOp .USub) (rU λi=>.int (-i)):=unI λ_ _ _ _ _ q=>neg_int q
def ws7{k k':Bool}(I:Inv X A3 σ H s)(q:Q (.bl k) H)(e:k=k'):EP X A3 σ Q (.bool k') s:=by
 subst e;exact⟨.bl k,H,I,rfl,q⟩
def vc0:OpR X (compareOp .Lt) (rI0 λi j=>.bl (decide (i<j))):=vr0 λ_ _ _ _ _ _ _ q=>lt_int q
def vg7:OpR X (compareOp .LtE) (rI0 λi j=>.bl (decide (i<=j))):=vr0 λ_ _ _ _ _ _ _ q=>le_int q
def vo3:OpR X (compareOp .Gt) (rI0 λi j=>.bl (decide (j<i))):=vr0 λ_ _ _ _ _ _ _ q=>gt_int q
def vv3:OpR X (compareOp .GtE) (rI0 λi j=>.bl (decide (j<=i))):=vr0 λ_ _ _ _ _ _ _ q=>ge_int q
def ym5:OpR X (compareOp .Is) (λx y H Q=>y=.non/\Q (.bl (decide (x=.non))) H):=by
 intro A3 s σ H x y v u Q I rx ry h;obtain⟨rfl,q⟩:=h;cases ry;refine is_none_gen (ws7 I q ?_);cases x<;>first
  | (cases rx;rfl)
  | (obtain⟨t,rfl⟩:=rx;rfl)
def OpR.or(h:OpR X f r)(h':OpR X f r'):OpR X f (λx y H Q=>r x y H Q\/r' x y H Q):=by
 intro A3 s σ H x y v u Q I rx ry q;rcases q with q | q
 ·exact h A3 s σ H x y v u Q I rx ry q
 ·exact h' A3 s σ H x y v u Q I rx ry q
def we7(b:Expr)(h:op≠.In:=by decide)(h2:op≠.NotIn:=by decide):behindInMarks op b=false:=by
 have e1:(op == CmpOp.In)=false:=by cases op<;>first | rfl | exact absurd rfl h
 have e2:(op == CmpOp.NotIn)=false:=by cases op<;>first | rfl | exact absurd rfl h2
 cases b<;>simp[behindInMarks,e1,e2]
def wi9(ho:OpR X (compareOp op) r)(ha:PE X a ta)(hb:PE X b tb)(hm:behindInMarks op b=false):PE X (.Compare a [op] [b] pos) (tOp r ta tb):=by
 intro A3 s σ H Q I h;exact wpAny_Compare1 (vy7 ha hb I h λv u s2 x y H2 I2 rx ry q=>ho A3 s2 σ H2 x y v u Q I2 rx ry q) hm
def vs9(t:TE):TT:=λσ H Q=>t σ H λx H'=>∃k,x=.bl k/\Q k H'
def xa3{op:CmpOp}{r:R2}(ho:OpR X (compareOp op) r)(ha:PE X a ta)(hb:PE X b tb)(hm:behindInMarks op b=false):PT X (.Compare a [op] [b] pos) (vs9 (tOp r ta tb)):=by
 intro A3 s σ H Q I h;refine wpAny_isTrue_Compare1 (thn (ha A3 s σ H _ I h) λv s1 ⟨x,H1,I1,r1,q1⟩=>thn (hb A3 s1 σ H1 _ I1 q1) λu s2 ⟨y,H2,I2,r2,q2⟩=>thn (ho A3 s2 σ H2 x y v u _ I2 r1 r2 q2) λc s3 hI83=>?_) hm;obtain⟨z,H3,I3,r3,k,e,q3⟩:=hI83;subst e;cases r3;exact Af1 ⟨H3,I3,q3⟩
def wd6(r r':R2)(ta tb tc:TE):TE:=λσ H Q=>ta σ H λx H1=>tb σ H1 λy H2=>r x y H2 λz H3=>∃k,z=.bl k/\
 (if k=true then tc σ H3 λw' H4=>r' y w' H4 Q else Q (.bl false) H3)
theorem xz9{op op':CmpOp}{r r':R2}(ho:OpR X (compareOp op) r)(ho':OpR X (compareOp op') r')(ha:PE X a ta)(hb:PE X b tb)(hc:PE X c tc)(hm:lastMarks [op,op'] [b,c]=false:=by with_unfolding_all rfl):PE X (.Compare a [op,op'] [b,c] pos) (wd6 r r' ta tb tc):=by
 intro A3 s σ H Q I h;refine Compare_chain (thn (ha A3 s σ H _ I h) λv s1 ⟨x,H1,I1,r1,q1⟩=>chain_link (thn (hb A3 s1 σ H1 _ I1 q1) λu s2 ⟨y,H2,I2,r2,q2⟩=>thn (ho A3 s2 σ H2 x y v u _ I2 r1 r2 q2) λd s3 hI84=>?_)) hm;obtain⟨z,H3,I3,r3,k,e,q3⟩:=hI84;subst e;cases r3;refine Af1 ?_;cases k with
 | false=>exact ite_ff ⟨.bl false,H3,I3,rfl,q3⟩
 | true=>exact ite_tt (chain_last (thn (hc A3 s3 σ H3 _ I3 q3) λw' s4 ⟨z',H4,I4,r4,q4⟩=>ho' A3 s4 σ H4 y z' u w' Q I4 r2 r4 q4))
def yv9:(sizeLine:Nat)<2 ^ 63:=by rw[sizeLine_eq];decide
theorem va4(r:wv6 [x] us):∃u,us=[u]/\wv5 x u:=by
 cases r with
 | cons r1 r2=>cases r2;exact⟨_,rfl,r1⟩
theorem vc3(r:wv6 [x,y] us):∃u w',us=[u,w']/\wv5 x u/\wv5 y w':=by
 cases r with
 | cons r1 r2=>
   cases r2 with
   | cons r3 r4=>cases r4;exact⟨_,_,rfl,r1,r3⟩
def zr0(hc:X.calm=true):wy3 X (.builtin "min") (λxs H Q=>∃i j,xs=[.int i,.int j]/\Q (.int (if j<i then j else i)) H):=by
 intro A3 s σ H xs us Q I r h;obtain⟨i,j,rfl,q⟩:=h;obtain⟨u,w',rfl,⟨t,rfl⟩,⟨t',rfl⟩⟩:=vc3 r;refine min_two_ints (I.ok.hd hc) λh' tk k=>⟨_,H,I.kept k,?_,q⟩
 by_cases hj:j<i
 ·rw[if_pos hj,if_pos hj];exact⟨_,rfl⟩
 ·rw[if_neg hj,if_neg hj];exact⟨_,rfl⟩
def zv6:wy3 X (.type "int") (λxs H Q=>(∃i,xs=[.int i]/\Q (.int i) H)\/∃k,xs=[.bl k]/\Q (.int (if k then 1 else 0)) H):=by
 intro A3 s σ H xs us Q I r h;rcases h with⟨i,rfl,q⟩ | ⟨k,rfl,q⟩
 ·obtain⟨u,rfl,t,rfl⟩:=va4 r
  exact call_int_int ⟨.int i,H,I,⟨_,rfl⟩,q⟩
 ·obtain⟨u,rfl,r1⟩:=va4 r
  cases r1;exact call_int_bool ⟨.int (if k then 1 else 0),H,I.tok _,⟨_,rfl⟩,q⟩
def xc4:wy3 X (.builtin "divmod") (λxs H Q=>∃i j,xs=[.int i,.int j]/\vs1 i j/\∀p,H p=none->Q (.ref p) (upd H p (.tup [.int (i / j),.int (i % j)]))):=by
 intro A3 s σ H xs us Q I r h;obtain⟨i,j,rfl,⟨h1,h2⟩,q⟩:=h;obtain⟨u,w',rfl,⟨t,rfl⟩,⟨t',rfl⟩⟩:=vc3 r;refine divmod_int (by omega) ?_ (.inl (PyProof.noPylong_small (by omega)));rw[Int.fdiv_eq_ediv_of_nonneg i (by omega),Int.fmod_eq_emod_of_nonneg i (by omega)];have hn:H s.heap.objs.size=none:=I.hok.fresh (Al0 _);refine⟨.ref s.heap.objs.size,_,?_,rfl,q _ hn⟩;refine I.laid (λb o e=>Ab0 _ e) (Al0 _) ⟨by simp only[Au0,List.length_nil];rw[sizeLine_eq];decide,[.int (i / j) s.toks,.int (i % j) (s.toks+1)],.cons ⟨_,rfl⟩ (.cons ⟨_,rfl⟩ .nil),?_⟩;exact⟨⟨_,Ak0 s.heap rfl,rfl,0,rfl⟩,⟨_,Ak0 _ rfl,rfl⟩⟩
end
structure vz1(h:Heap)(x dx C:Addr)(mA:Str->Option Value):Prop where
 obj:h.get? x=some (PySem.W.instObj C dx)
 ns:h.Ns1 dx mA
 ne:dx≠x
open H in
def xs8{h:Heap}{dx:Addr}{mA:Str->Option Value}(n:h.Ns1 dx mA):∃od,h.get? dx=some od/\∀name,PySem.W.lookIn name od=some (mA name):=by
 obtain⟨o,es,ep,ho,hd,hk,_,hm⟩:=n;refine⟨o,ho,λname=>?_⟩;have e:=hm name;unfold nsFind findBy at e;rw[<-Array.find?_toList] at e;unfold PySem.W.lookIn;rw[hd];dsimp only;split
 ·rename_i y q
  rw[q] at e;exact congrArg some e
 ·rename_i q
  rw[q] at e;have a:es.toList.any (·.refKey)=false:=by
   rw[List.any_eq_false];intro y hy;obtain⟨z,t,hkey⟩:=hk y (Array.mem_toList_iff.mp hy);simp[DictEntry.refKey,hkey]
  have a':¬es.toList.any (·.refKey)=true:=by rw[a];exact Bh0
  rw[if_neg a'];exact congrArg some e
def vz1.look(I:vz1 h x dx C mA):∃od,PySem.W.InstAt h x (PySem.W.instObj C dx) C (some od)/\∀name,PySem.W.lookIn name od=some (mA name):=
 let ⟨od,ho,hl⟩:=xs8 I.ns
 ⟨od,⟨I.obj,rfl,rfl,ho⟩,hl⟩
section
variable{prog:Program}{w:World}{A:Around}{E:Value->Shared->Prop}{s:Shared}{K:PySem.W.Frag}{x dx C f:Addr}{mA:Str->Option Value}{name:Str}{v:Value}
end
theorem vf7.some_of(r:vf7 (some v) o):∃u,o=some u/\wv5 v u:=by
 cases o with
 | none=>exact(show False from r).elim
 | some u=>exact⟨u,rfl,r⟩
section
variable{P:Program}{w:World}{H H':Hp}{h h':Heap}{a C dx:Addr}{fs fs':List (Str×V)}
def wk7(hok:HOk P w H h)(e:H a=some (.ins C dx fs)):∃mA,vz1 h a dx C mA/\(∀f,vf7 (fs.lookup f) (mA f))/\PySem.Within mA (fs.map (·.1))/\fs.length<=1000/\H dx=some (.own a):=by
 obtain⟨d,z,ne,ob,mA,n,r,q⟩:=(show ww4 P w H h a (.ins C dx fs) from hok a _ e);exact⟨mA,⟨ob,n,ne⟩,r,q,z,d⟩
end
structure Cls(K:PySem.W.Frag)(C:Addr):Prop where
 pg:PySem.W.plainGet K C Str.empty=true
 hd:PySem.W.hasDictIn K C=true
 po:PySem.W.plainOver K C=true
 sa:PySem.W.findIn K (.ref C) "__setattr__" = some (some (.builtin "object.__setattr__"))
def Cls.get{K:PySem.W.Frag}{C:Addr}(c:Cls K C)(f:Str):PySem.W.plainGet K C f=true:=c.pg
section
variable{X:Cx}{A3:List (Addr×Obj)}{σ:St}{H:Hp}{s:Shared}{a C dx:Addr}{fs:List (Str×V)}{f:Str}{v:V}{A:Around}{E:Value->Shared->Prop}{o e value:Expr}{pos pos' tpos:Pos}{ta tv:TE}{Q:Value->Shared->Prop}{c:Value}{b:Bool}
def wm0{prog:Program}{w:World}{env:Env}{e:Expr}{f:Str}{pos:Pos}{s:Shared}{Q:Value->Shared->Prop}(hb:attributeBase e f env (eval e env)=eval e env)(h:wpAny (model prog w) A (eval e env) (λo s₁=>wpAny (model prog w) A (getAttr o f true) Q E s₁) E s):wpAny (model prog w) A (eval (.Attribute e f pos) env) Q E s:=
 Attribute_any_ h (by rw[arm_eval_Attribute,hb])
inductive vg1(K:PySem.W.Frag)(H:Hp):V->Value->Prop where
 | non:vg1 K H .non (.type "NoneType")
 | bl (x:Bool):vg1 K H (.bl x) (.type "bool")
 | int (i:Int):vg1 K H (.int i) (.type "int")
 | str (x:Str):vg1 K H (.str x) (.type "str")
 | flt (x:UInt64):vg1 K H (.flt x) (.type "float")
 | lst {a:Addr} {xs:List V} (e:H a=some (.lst xs)):vg1 K H (.ref a) (.type "list")
 | frz {a:Addr} {o:Obj} {xs:List V} (e:H a=some (.frz o (.lst xs))):vg1 K H (.ref a) (.type "list")
 | tup {a:Addr} {xs:List V} (e:H a=some (.tup xs)):vg1 K H (.ref a) (.type "tuple")
 | dK {a:Addr} {kvs:List (Key×V)} (e:H a=some (.dK kvs)):vg1 K H (.ref a) (.type "dict")
 | dT {a:Addr} {kvs:List (List Key×V)} (e:H a=some (.dT kvs)):vg1 K H (.ref a) (.type "dict")
 | ins {a C dx:Addr} {fs:List (Str×V)} (e:H a=some (.ins C dx fs)) (cl:Cls K C) (ha:PySem.W.findIn K (.ref C) "__class__" = some (some (.builtin "object.__class__")))
  (hn:PySem.W.specialIn K (.builtin "object.__class__") "__get__" = some (some (.builtin "getset_descriptor.__get__"))) (htk:PySem.W.takesIn K (.builtin "object.__class__")=some true)
  (hm:PySem.W.mroIn K C (.type "object")=some true):vg1 K H (.ref a) (.ref C)
theorem zl3(I:Inv X A3 σ H s)(rx:wv5 x u)(ty:vg1 X.K H x t)(e:PySem.W.kitOne X.K t c=some b)(h:∀tk,Q (.bool b) { s with toks:=tk }) :
 wpAny (model X.prog X.w) A (call (.builtin "isinstance") [u,c]) Q E s:=by
 cases ty with
 | non=>cases (show u=Value.none from rx);exact PySem.W.kia_one PySem.W.kitx_none I.kIn True.intro e (λz=>nomatch z) h
 | bl y=>cases (show u=Value.bool y from rx);exact PySem.W.kia_one PySem.W.kitx_bool I.kIn True.intro e (λz=>nomatch z) h
 | int i=>obtain⟨t,q⟩:=(show ∃t,u=Value.int i t from rx);cases q;exact PySem.W.kia_one PySem.W.kitx_int I.kIn True.intro e (λz=>nomatch z) h
 | str y=>obtain⟨t,q⟩:=(show ∃t,u=Value.str y t from rx);cases q;exact PySem.W.kia_one PySem.W.kitx_str I.kIn True.intro e (λz=>nomatch z) h
 | flt y=>obtain⟨t,q⟩:=(show ∃t,u=Value.float y t from rx);cases q;exact PySem.W.kia_one PySem.W.kitx_float I.kIn True.intro e (λz=>nomatch z) h
 | @lst a xs ea=>
   cases (show u=Value.ref a from rx);obtain⟨_,_,n,_,h1⟩:=(show ww4 X.prog X.w H s.heap a (.lst xs) from I.hok a _ ea);exact PySem.W.kia_one PySem.W.kitx_list I.kIn ⟨_,h1,rfl⟩ e (λz=>nomatch z) h
 | @frz a ob xs ea=>
   cases (show u=Value.ref a from rx);obtain⟨_,_,_,n,_,h1⟩:=(show ww4 X.prog X.w H s.heap a (.frz ob (.lst xs)) from I.hok a _ ea);exact PySem.W.kia_one PySem.W.kitx_list I.kIn ⟨_,h1,rfl⟩ e (λz=>nomatch z) h
 | @tup a xs ea=>
   cases (show u=Value.ref a from rx);obtain⟨_,_,_,p,_⟩:=(show ww4 X.prog X.w H s.heap a (.tup xs) from I.hok a _ ea);obtain⟨o,h1,h2,_⟩:=p;exact PySem.W.kia_one PySem.W.kitx_tuple I.kIn ⟨o,h1,h2⟩ e (λz=>nomatch z) h
 | @dK a kvs ea=>
   cases (show u=Value.ref a from rx);obtain⟨_,_,vs,_,p⟩:=(show ww4 X.prog X.w H s.heap a (.dK kvs) from I.hok a _ ea);obtain⟨o,es,ep,h1,h2,_⟩:=p;exact PySem.W.kia_one PySem.W.kitx_dict I.kIn ⟨o,h1,h2.1⟩ e (λz=>nomatch z) h
 | @dT a kvs ea=>
   cases (show u=Value.ref a from rx);obtain⟨_,_,xs,_,o,es,ep,h1,h2,_⟩:=(show ww4 X.prog X.w H s.heap a (.dT kvs) from I.hok a _ ea);exact PySem.W.kia_one PySem.W.kitx_dict I.kIn ⟨o,h1,h2.1⟩ e (λz=>nomatch z) h
 | @ins a C dx fs ea cl ha hn htk hm=>
   cases (show u=Value.ref a from rx);obtain⟨mA,O,_⟩:=wk7 I.hok ea;obtain⟨od,J,_⟩:=O.look;exact PySem.W.kia_one (PySem.W.kitx_own (cl.get _) cl.hd ha hn htk hm) I.kIn J e (λz=>nomatch z) h
end
structure wv8(k:Nat)(A:Around):Prop where
 hd:A.handled=none
 dp:A.depth+3*k+5<recursionLimit
 un:A.units+16*k+200<cLine
 gd:A.guards=some []
def wv8.mono{j k:Nat}(r:wv8 k A)(h:j<=k):wv8 j A:=⟨r.hd,by have:=r.dp;omega,by have:=r.un;omega,r.gd⟩
def wv8.deeper{k:Nat}(r:wv8 (k+1) A)(env:Env):wv8 k (A.deeper env):=
 ⟨r.hd,by have:=r.dp;show A.depth+1+3*k+5<_;omega,by have:=r.un;show A.units+3+16*k+200<_;omega,r.gd⟩
def xm1{A:Around}{C:Addr}{us:List Value}{kw:List (Str×Value)}:(A.under (.builtin "type.__call__" ⟨.ref C::us,kw⟩)).depth=A.depth+1:=by
 first | rfl | simp[Around.under,Code.weight,Code.isCreation,Code.isGuard,Code.isCaller,Code.frames,Code.isFrame,guardIds]
def xm0{A:Around}{C:Addr}{us:List Value}{kw:List (Str×Value)}:(A.under (.builtin "type.__call__" ⟨.ref C::us,kw⟩)).units=A.units+1:=by
 first | rfl | simp[Around.under,Code.cUnits,Code.frames,Code.isFrame]
def xb5{A:Around}{C:Addr}{us:List Value}{kw:List (Str×Value)}:(A.under (.builtin "type.__call__" ⟨.ref C::us,kw⟩)).guards=A.guards:=by
 simp[Around.under,Code.guards,Code.isGuard,guardIds,pushGuards]
def wv8.make{k:Nat}(r:wv8 (k+1) A)(C:Addr)(us:List Value)(kw:List (Str×Value)):wv8 k (A.under (.builtin "type.__call__" ⟨.ref C::us,kw⟩)):=
 ⟨r.hd,by have:=r.dp;rw[xm1];omega,by have:=r.un;rw[xm0];omega,xb5.trans r.gd⟩
def wv8.depth{k:Nat}(r:wv8 k A):A.depth<recursionLimit:=by have:=r.dp;omega
def wv8.units{k:Nat}(r:wv8 k A):A.units+64<cLine:=by have:=r.un;omega
def vz4:TA:=λ_ H Q=>Q [] H
def vi5(ta:TE)(tr:TA):TA:=λσ H Q=>ta σ H λx H1=>tr σ H1 λxs H2=>Q (x::xs) H2
section
variable{X:Cx}{e:Expr}{es:List Expr}{te:TE}{t:TA}{pos:Pos}
def zf4:PA X [] vz4:=λ_ _ _ _ H Q I h=>Calls.spliced_nil ⟨[],H,I,.nil,h⟩
def zb8(ha:PE X e te)(hr:PA X es t)(hs:starEach (e::es) X.env=(false,eval e X.env)::starEach es X.env:=by rfl):PA X (e::es) (vi5 te t):=by
 intro pos A3 s σ H Q I h;rw[hs];show wpAny _ _ (spliced ((false,eval e X.env)::backTo pos (starEach es X.env))) _ _ s;refine Calls.spliced_cons (thn (ha A3 s σ H _ I h) λu s1 hI85=>?_);obtain⟨x,H1,I1,r1,q1⟩:=hI85;exact thn (hr pos A3 s1 σ H1 _ I1 q1) λus s2 ⟨xs,H2,I2,r2,q2⟩=>⟨x::xs,H2,I2,.cons r1 r2,q2⟩
def uc3(t:TA):TE:=λσ H Q=>t σ H λxs H1=>xs.length<=sizeLine/\∀p,H1 p=none->Q (.ref p) (upd H1 p (.tup xs))
def ud0(t:TA):TE:=λσ H Q=>t σ H λxs H1=>xs.length<=sizeLine/\∀p,H1 p=none->Q (.ref p) (upd H1 p (.lst xs))
def yh5{x1}(h:PA X es t):PE X (.Tuple es x1 pos) (uc3 t):=by
 intro A3 s σ H Q I hq;refine wpAny_Tuple_spliced (thn (h pos A3 s σ H _ I hq) λus s1 ⟨xs,H1,I1,r,z,q⟩=>⟨by rw[<-r.length];exact z,?_⟩);have hf:H1 s1.heap.objs.size=none:=I1.hok.fresh (Al0 _);refine⟨.ref s1.heap.objs.size,upd H1 s1.heap.objs.size (.tup xs),I1.laid (t':=s1.toks) (λb u e=>Ab0 _ e) (Al0 _) ?_,rfl,q _ hf⟩;exact⟨z,us,r,⟨_,Ak0 _ rfl,rfl,_,rfl⟩,⟨_,Ak0 _ rfl,rfl⟩⟩
def xr1(h:PA X es t):PE X (.List es pos) (ud0 t):=by
 intro A3 s σ H Q I hq;refine wpAny_List_spliced (thn (h pos A3 s σ H _ I hq) λus s1 ⟨xs,H1,I1,r,z,q⟩=>⟨by rw[<-r.length];exact z,?_⟩);have hf:H1 s1.heap.objs.size=none:=I1.hok.fresh (Al0 _);refine⟨.ref s1.heap.objs.size,upd H1 s1.heap.objs.size (.lst xs),I1.laid (t':=s1.toks) (λb u e=>Ab0 _ e) (Al0 _) ?_,rfl,q _ hf⟩;exact⟨z,us,0,r,Ak0 _ rfl⟩
end
abbrev Sp:=List V->Hp->VK->XK->Prop
abbrev CXT:=List Env->Hp->Shared->XK->Value->Shared->Prop
structure vi3(P:Program)(w:World)(K:PySem.W.Frag)(mg:Str->Option Value)(base:Heap)(A:Around)(outer:List Env)(s:Shared)(H:Hp):Prop where
 frames:A.frames=some outer
 mod:Mod K mg base
 bs:∀b o,base.get? b=some o->s.heap.get? b=some o/\H b=none
 bsz:base.objs.size<=s.heap.objs.size
 funs:s.heap.FunFrames base outer
 frf:∀b∈frs outer,H b=none
 hok:HOk P w H s.heap
 bare:AllBare s.gens
def CE(outer:List Env)(P:Program)(w:World)(H:Hp)(s:Shared)(Q:VK)(u:Value)(s':Shared):Prop:=
 ∃v H',s'.os=s.os/\AllBare s'.gens/\Un (frs outer) [] H H' s.heap s'.heap/\HOk P w H' s'.heap/\wv5 v u/\Q v H'
def CR(CX:CXT)(outer:List Env)(P:Program)(w:World)(H:Hp)(s:Shared)(Q:VK)(E:XK)(r:Result)(s':Shared):Prop:=
 match r with
 | .ok (.ret u)=>CE outer P w H s Q u s'
 | .ok _=>False
 | .error e=>CX outer H s E e s'
structure wy0(P:Program)(w:World)(K:PySem.W.Frag)(mg:Str->Option Value)(base:Heap)(CX:CXT)(k:Nat)(f:Addr)(fd:FuncData)(ps:List Str)(sp:Sp):Prop where
 len:∀vs H Q E,sp vs H Q E->vs.length=ps.length
 run:∀(A:Around) (outer:List Env) (s:Shared) (H:Hp) (args:Args) (us:List Value) (vs:List V) (Q:VK) (E:XK),wv8 k A->vi3 P w K mg base A outer s H->BindsTo s fd args (ps.zip us)->wv6 vs us->sp vs H Q E->
  codeAny (model P w) A (.call (.ref f) args) (CR CX outer P w H s Q E) s
def wy0.mono{P:Program}{w:World}{K:PySem.W.Frag}{mg:Str->Option Value}{base:Heap}{CX:CXT}{j k:Nat}{f:Addr}{fd:FuncData}{ps:List Str}{sp:Sp}(F:wy0 P w K mg base CX j f fd ps sp)(h:j<=k) :
 wy0 P w K mg base CX k f fd ps sp:=⟨F.len,λA outer s H args us vs Q E hr=>F.run A outer s H args us vs Q E (hr.mono h)⟩
def vi3.make{P:Program}{w:World}{K:PySem.W.Frag}{mg:Str->Option Value}{base:Heap}{A:Around}{outer:List Env}{s:Shared}{H:Hp}(e:vi3 P w K mg base A outer s H)(C:Addr)(us:List Value)(kw:List (Str×Value)) :
 vi3 P w K mg base (A.under (.builtin "type.__call__" ⟨.ref C::us,kw⟩)) outer s H:=⟨by first | exact e.frames | (simpa [Around.under,Code.envs,Code.isFrame,pushEnvs] using e.frames),e.mod,e.bs,e.bsz,e.funs,e.frf,e.hok,e.bare⟩
section
variable{X:Cx}{A3:List (Addr×Obj)}{σ:St}{H:Hp}{s s':Shared}
def Inv.env0(I:Inv X A3 σ H s):vi3 X.prog X.w X.K X.mg X.base X.A X.stack s H:=
 ⟨I.ok.frames,I.ok.mod,I.bs,Av0 I.ok.bsz I.sz,I.stack,I.stkFree,I.hok,I.bare⟩
def Inv.after(I:Inv X A3 σ H s)(h:CE X.stack X.prog X.w H s Q u s'):EP X A3 σ Q u s':=by
 obtain⟨v,H',os,bare,un,hok,r,q⟩:=h;obtain⟨hh,g,d,t,os'⟩:=s';obtain rfl:os'=s.os:=os;exact⟨v,H',I.call (h':=hh) (g':=g) (d':=d) (t':=t) (ch:=[]) un hok bare (λb z=>absurd z (by simp)),r,q⟩
end
def vd8(sp:Sp)(dvs:List V)(E:XK)(t:TA):TE:=λσ H Q=>t σ H λvs H1=>sp (vs++dvs) H1 Q E
def wz7(K:PySem.W.Frag)(fd:FuncData)(ps:List Str)(ds:List Value):Prop:=
 ∀(s:Shared) (us:List Value),K.In s.heap->(us++ds).length=ps.length->BindsTo s fd ⟨us,[]⟩ (ps.zip (us++ds))
def wz7.all{K:PySem.W.Frag}{fd:FuncData}{ps:List Str}(h:∀us:List Value,us.length=ps.length->bindArgs fd ⟨us,[]⟩=pure (ps.zip us)):wz7 K fd ps []:=λs us _ hl=>by
 rw[Az0] at hl ⊢;exact .of_eq (h us hl)
def yy8(CX:CXT)(X:Cx)(E:XK):Prop:=∀(A3:List (Addr×Obj)) (σ:St) (H:Hp) (s:Shared) (e:Value) (s':Shared),Inv X A3 σ H s->CX X.stack H s E e s'->X.xe e s'
section
variable{X:Cx}{CX:CXT}{k:Nat}{f C:Addr}{fd:FuncData}{ps:List Str}{sp:Sp}{dvs:List V}{ds:List Value}{E:XK}{x m:Str}{p pos apos:Pos}{e o:Expr}{es:List Expr}{ta:TE}{t:TA}{ks:List Str}{kpos:Pos}{kws:List Keyword}{te:TE}{tk:TA}{nm:Option Str}{g:List Value->List Value->List Value}{gV:List V->List V->List V}
open H in
theorem wo6{A3:List (Addr×Obj)}{σ:St}{H:Hp}{s:Shared}{Q:VK}{us:List Value}{vs:List V}(F:wy0 X.prog X.w X.K X.mg X.base CX k f fd ps sp)(hr:wv8 k X.A)(hb:wz7 X.K fd ps ds)(hd:wv6 dvs ds)(hx:yy8 CX X E)(I:Inv X A3 σ H s)(r:wv6 vs us)(h:sp (vs++dvs) H Q E):wpAny (model X.prog X.w) X.A (call (.ref f) us) (EP X A3 σ Q) X.xe s:=by
 have r2:wv6 (vs++dvs) (us++ds):=r.append hd;have hl:(us++ds).length=ps.length:=by rw[<-r2.length];exact F.len _ _ _ _ h
 refine wpAny_call (codeAny_mono (F.run X.A X.stack s H ⟨us,[]⟩ (us++ds) (vs++dvs) Q E hr I.env0 (hb s us I.kIn hl) r2 h) λr s' hq=>?_);cases r with
 | error e=>exact hx A3 σ H s e s' I hq
 | ok fl=>
   cases fl with
   | ret u=>exact I.after hq
   | next=>exact False.elim hq
   | brk=>exact False.elim hq
   | cont=>exact False.elim hq
def yb8(F:wy0 X.prog X.w X.K X.mg X.base CX k f fd ps sp)(hr:wv8 k X.A)(hg:Gl X x)(hm:X.mg x=some (.ref f))(hk:keepIn X.K (.ref f)=true)(hb:wz7 X.K fd ps ds)(hd:wv6 dvs ds)(hx:yy8 CX X E)(ha:PA X (e::es) t)(hdb:(x == ("__debug__" : Str))=false:=by decide)(he:starEach (e::es) X.env=(false,eval e X.env)::starEach es X.env:=by rfl)(hpl:(backTo pos (starEach es X.env)).any (·.1)=false:=by rfl) :
 PE X (.Call (.Name x p) (e::es) [] pos) (vd8 sp dvs E t):=by
 intro A3 s σ H Q I h;refine wpAny_Call_Name_kw (zu9 I hg hm ?_ hdb);refine PySem.W.callWith_K (h₀:=X.base) I.ok.mod.kin hk (thn (ha pos A3 s σ H _ I h) λus s1 ⟨vs,H1,I1,r,q⟩=>⟨I1.kIn,?_⟩) he hpl;exact wo6 F hr hb hd hx I1 r q
end
structure zc0(N P:List Str)(sc:Scope):Prop where
 kind:sc.kind=.function
 co:sc.isCoroutine=false
 gen:sc.isGenerator=false
 nd:N.Nodup
 pre:N.take P.length=P
 par:∀x∈P,sc.names.lookup x=some .local\/sc.names.lookup x=some .cell
 nofree:∀y∈sc.names,y.2≠.free
theorem yy3{kindOf:Str->Option NameKind}{x:Str}:∀{binds:List (Str×Value)} {m:Str->Option Value},(∀v,(x,v)∉binds)->bindL kindOf binds m x=m x
 | [],_,_=>rfl
 | (n,v)::r,m,h=>by
   unfold bindL;rw[yy3 λw hw=>h w (Bg0 _ hw)];split
   ·have:x≠n:=by rintro rfl;exact h v Br0
    simp[this]
   ·rfl
theorem yy5{kindOf:Str->Option NameKind}{x:Str}:∀{binds:List (Str×Value)} {m:Str->Option Value},(∀v,(x,v)∉binds)->bindC kindOf binds m x=m x
 | [],_,_=>rfl
 | (n,v)::r,m,h=>by
   unfold bindC;rw[yy5 λw hw=>h w (Bg0 _ hw)];split
   ·rfl
   ·have:x≠n:=by rintro rfl;exact h v Br0
    simp[this]
theorem yy4{kindOf:Str->Option NameKind}{x:Str}{v:Value}:∀{P:List Str} {vs:List Value} {i:Nat} {m:Str->Option Value},P.Nodup->P[i]?=some x->vs[i]?=some v->kindOf x=some .local->
 bindL kindOf (P.zip vs) m x=some v
 | [],_,_,_,_,h,_,_=>by simp at h
 | _::_,[],_,_,_,_,h,_=>by simp at h
 | p::P,w::vs,0,m,nd,h1,h2,hk=>by
   simp at h1 h2;subst h1;subst h2;show bindL kindOf ((p,w)::P.zip vs) m p=_;unfold bindL;rw[yy3 λv hv=>(Cc0.mp nd).1 (List.of_mem_zip hv).1,if_pos hk];simp
 | p::P,w::vs,i+1,m,nd,h1,h2,hk=>by
   show bindL kindOf ((p,w)::P.zip vs) m x=_;unfold bindL;exact yy4 (i:=i) (Cc0.mp nd).2 (by simpa using h1) (by simpa using h2) hk
theorem yy6{kindOf:Str->Option NameKind}{x:Str}{v:Value}:∀{P:List Str} {vs:List Value} {i:Nat} {m:Str->Option Value},P.Nodup->P[i]?=some x->vs[i]?=some v->kindOf x≠some .local->
 bindC kindOf (P.zip vs) m x=some v
 | [],_,_,_,_,h,_,_=>by simp at h
 | _::_,[],_,_,_,_,h,_=>by simp at h
 | p::P,w::vs,0,m,nd,h1,h2,hk=>by
   simp at h1 h2;subst h1;subst h2;show bindC kindOf ((p,w)::P.zip vs) m p=_;unfold bindC;rw[yy5 λv hv=>(Cc0.mp nd).1 (List.of_mem_zip hv).1,if_neg hk];simp
 | p::P,w::vs,i+1,m,nd,h1,h2,hk=>by
   show bindC kindOf ((p,w)::P.zip vs) m x=_;unfold bindC;exact yy6 (i:=i) (Cc0.mp nd).2 (by simpa using h1) (by simpa using h2) hk
def wx1(N:List Str)(vs:List V):St:=vs.map some++List.replicate (N.length-vs.length) none
def wx0(CX:CXT)(P:Program)(w:World)(K:PySem.W.Frag)(mg:Str->Option Value)(base:Heap)(N:List Str)(qual:Str)(scope:Scope)(f:Addr)(cd:Value)(A:Around)(outer:List Env)(s:Shared)(H:Hp)(E:XK):Cx where
 prog:=P
 w:=w
 K:=K
 mg:=mg
 base:=base
 A:=A.deeper (envOfC qual scope s.heap.objs.size f cd)
 N:=N
 s₀:=s
 H₀:=H
 env:=envOfC qual scope s.heap.objs.size f cd
 outer:=outer
 stack:=envOfC qual scope s.heap.objs.size f cd::outer
 ex:=[]
 calm:=true
 fn:=λ_=>true
 pn:=[]
 xe:=λe s'=>wpAny (model P w) (A.deeper (envOfC qual scope s.heap.objs.size f cd)) (leaving (envOfC qual scope s.heap.objs.size f cd) e) (λ_ s''=>CX outer H s E e s'') (λe' s''=>CX outer H s E e' s'') s'
def xj0{sc:Scope}{n:Nat}{x:Str}(h:sc.names.lookup x=some .cell):∃c,(cellsFrom n sc.names []).lookup x=some c:=by
 have q:=PySem.W.cellsFrom_some sc.names n [] (.inl h);exact Option.isSome_iff_exists.mp q
def yw3{CX:CXT}{P:Program}{w:World}{K:PySem.W.Frag}{mg:Str->Option Value}{base:Heap}{N ps:List Str}{qual:Str}{scope:Scope}{f:Addr}{cd:Value}{A:Around}{outer:List Env}{s s1:Shared}{H:Hp}{E:XK}{us:List Value}{vs:List V}(S:zc0 N ps scope)(hd:A.handled=none)(e0:vi3 P w K mg base A outer s H)(hl:vs.length=ps.length)(r:wv6 vs us)(x:InCallC s s.heap.objs.size (bindL (envOfC qual scope s.heap.objs.size f cd).kindOf (ps.zip us) λ_=>none) (cellsFrom (s.heap.objs.size+1) scope.names []) (bindC (envOfC qual scope s.heap.objs.size f cd).kindOf (ps.zip us) λ_=>none) s1) :
 Inv (wx0 CX P w K mg base N qual scope f cd A outer s H E) [] (wx1 N vs) H s1:=by
 have hpl:ps.length<=N.length:=by have:=congrArg List.length S.pre;rw[Bf0] at this;omega
 obtain⟨h1,tk,rfl,hk⟩:=x.done;have noA:∀b:Addr,b∉(wx0 CX P w K mg base N qual scope f cd A outer s H E).ex:=λb z=>absurd (show b∈([]:List Addr) from z) (by simp)
 refine⟨⟨e0.mod,S.kind,rfl,rfl,Al0 _,λy z c h1 h2=>?_,λy hy=>?_,λy c _ h=>?_,λ_=>hd,Around.frames_deeper e0.frames,.inr ⟨rfl,rfl⟩,λb z=>absurd z (noA b),e0.bs,e0.bsz,λb _ _=>noA b,λb z=>absurd z (noA b),e0.funs,e0.frf⟩,rfl,e0.bare,Un.kept hk,⟨_,x.toInCall.ns,λi y v h1 h2 h3=>?_⟩,λy c h=>⟨_,x.cell y c h⟩,e0.hok.fresh (Al0 _),λy c h=>?_,λp hp=>absurd (show p∈([]:List (Addr×Obj)) from hp) (by simp),e0.hok.kept hk,?_⟩
 ·exact name_of_addr x.apart (PySem.mem_of_lookup h1) (PySem.mem_of_lookup h2)
 ·have hy:scope.names.lookup y=some .cell\/scope.names.lookup y=some .free:=hy
  rcases hy with hy | hy
  ·exact xj0 hy
  ·exact absurd rfl (S.nofree _ (PySem.mem_of_lookup hy))
 ·exact Nat.le_of_lt (x.above y c (PySem.mem_of_lookup h))
 ·have hi:i<vs.length:=by
   unfold wx1 at h2;by_cases hi:i<vs.length
   ·exact hi
   ·rw[List.getElem?_append_right (by simpa using hi)] at h2
    rw[List.getElem?_replicate] at h2;split at h2<;>cases h2
  have ha:vs[i]?=some v:=by
   unfold wx1 at h2;rw[Aq0 (by simpa using hi),Ag0] at h2;cases e:vs[i]? with
   | none=>rw[e] at h2;cases h2
   | some a=>rw[e] at h2;cases h2;rfl
  obtain⟨u,hu,rv⟩:=r.get ha;have hp:ps[i]?=some y:=by
   rw[<-S.pre,List.getElem?_take_of_lt (by omega)];exact h1
  have ndP:ps.Nodup:=by rw[<-S.pre];exact S.nd.sublist (List.take_sublist _ _)
  refine⟨u,rv,?_⟩;rcases S.par y (Ai0 hp) with k | k
  ·exact .inl ⟨k,yy4 ndP hp hu k⟩
  ·obtain⟨c,e⟩:=xj0 (n:=s.heap.objs.size+1) k
   refine .inr ⟨.inl k,c,e,?_⟩;have q:=x.cell y c e;rw[yy6 ndP hp hu (by show scope.names.lookup y≠_;rw[k];decide)] at q;exact q
 ·exact e0.hok.fresh (Nat.le_of_lt (x.above y c (PySem.mem_of_lookup h)))
 ·unfold wx1
  show _=N.length;rw[An0,Aa0,List.length_replicate];omega
open H in
theorem vo9{CX:CXT}{P:Program}{w:World}{K:PySem.W.Frag}{mg:Str->Option Value}{base:Heap}{k:Nat}{f:Addr}{name qual:Str}{params:Arguments}{body:List Stmt}{scope:Scope}{dV kV doc pm cdv ct oc:Value}{an od:Option Addr}{osl:Array (Option Value)}{N ps:List Str}{sp:Sp}(lk:K.lookup f=some ⟨oc,od,.func (fnOf name qual params body scope dV kV doc pm an cdv ct),osl⟩)(hcd:codeIn K cdv qual=true)(S:zc0 N ps scope)(len:∀vs H Q E,sp vs H Q E->vs.length=ps.length)(hbody:∀(A:Around) (outer:List Env) (s:Shared) (H:Hp) (vs:List V) (Q:VK) (E:XK),wv8 k (A.deeper (envOfC qual scope s.heap.objs.size f cdv))->sp vs H Q E->
  ∃t,PSs (wx0 CX P w K mg base N qual scope f cdv A outer s H E) body t/\t { nx:=λ_ H'=>Q .non H',rt:=Q } (wx1 N vs) H) :
 wy0 P w K mg base CX (k+1) f (fnOf name qual params body scope dV kV doc pm an cdv ct) ps sp:=by
 refine⟨len,λA outer s H args us vs Q E hr e0 hb r hsp=>?_⟩;have hl:=len _ _ _ _ hsp;have KX:K.In s.heap:=e0.mod.kin.keeps λb o e=>(e0.bs b o e).1
 have lim:s.heap.NoLimit:=e0.mod.nolimit.keeps λb o e=>(e0.bs b o e).1
 have hkind:∀y∈ps.zip us,scope.names.lookup y.1=some .local\/(scope.names.lookup y.1=some .cell/\((cellsFrom (s.heap.objs.size+1) scope.names []).lookup y.1).isSome=true):=λhI2 hy=>by
  obtain⟨n,v⟩:=hI2;rcases S.par n (List.of_mem_zip hy).1 with q | q
  ·exact .inl q
  ·exact .inr ⟨q,PySem.W.cellsFrom_some _ _ _ (.inl q)⟩
 refine codeAny_call_function hr.depth (KX _ _ lk) rfl S.co S.gen rfl (PySem.W.codeRec_of KX hcd) (hb _ _ _ _ ?_);refine wpAny_newFunctionEnv_cells S.kind hkind λenv he s1 x=>?_
 subst he;refine⟨lim.keeps x.toInCall.keep,codeAny_func ?_⟩;obtain⟨t,ht,hq⟩:=hbody A outer s H vs Q E (hr.deeper _) hsp;have I:Inv (wx0 CX P w K mg base N qual scope f cdv A outer s H E) [] (wx1 N vs) H s1:=yw3 S hr.hd e0 hl r x;refine Ae1 (ht [] s1 (wx1 N vs) H _ I hq) (λfl s' hs=>?_) λe s' hs=>hs
 have fin:∀{σ':St} {H':Hp} {v:V} {u:Value},Inv (wx0 CX P w K mg base N qual scope f cdv A outer s H E) [] σ' H' s'->wv5 v u->Q v H'->CE outer P w H s Q u s':=
  λ{σ' H' v u} J rv q=>⟨v,H',J.os,J.bare,J.base,J.hok,rv,q⟩
 cases fl with
 | ret u=>
   obtain⟨v,σ',H',J,rv,q⟩:=hs;exact fin J rv q
 | next=>
   obtain⟨σ',H',J,q⟩:=hs;exact fin (v:=V.non) (u:=Value.none) J rfl q
 | brk=>
   obtain⟨_,_,_,q⟩:=hs;exact False.elim q
 | cont=>
   obtain⟨_,_,_,q⟩:=hs;exact False.elim q
section
variable{X:Cx}{x:Str}{p pos:Pos}{e:Expr}{es:List Expr}{t:TA}{id T:String}{r:List V->Hp->VK->Prop}
def tCB(r:List V->Hp->VK->Prop)(t:TA):TE:=λσ H Q=>t σ H λvs H1=>r vs H1 Q
def zs1(hc:wy3 X (.builtin id) r)(hg:Gl X x)(hm:X.mg x=none)(hv:bootBuiltins x=some (.builtin id))(ha:PA X (e::es) t)(hn:x≠"__name__":=by decide)(hdb:(x == ("__debug__" : Str))=false:=by decide)(he:starEach (e::es) X.env=(false,eval e X.env)::starEach es X.env:=by rfl)(hpl:(backTo pos (starEach es X.env)).any (·.1)=false:=by rfl):PE X (.Call (.Name x p) (e::es) [] pos) (tCB r t):=by
 intro A3 s σ H Q I h;refine wpAny_Call_Name_kw (ya7 I hg hm hv ?_ hn hdb);exact PyProof.Rows.callWith_builtin1 (thn (ha pos A3 s σ H _ I h) λus s1 ⟨vs,H1,I1,r1,q1⟩=>hc A3 s1 σ H1 vs us Q I1 r1 q1) he hpl
def yu8(hc:wy3 X (.type T) r)(hg:Gl X x)(hm:X.mg x=none)(hv:bootBuiltins x=some (.type T))(ha:PA X (e::es) t)(hn:x≠"__name__":=by decide)(hdb:(x == ("__debug__" : Str))=false:=by decide)(he:starEach (e::es) X.env=(false,eval e X.env)::starEach es X.env:=by rfl)(hpl:(backTo pos (starEach es X.env)).any (·.1)=false:=by rfl):PE X (.Call (.Name x p) (e::es) [] pos) (tCB r t):=by
 intro A3 s σ H Q I h;refine wpAny_Call_Name_kw (ya7 I hg hm hv ?_ hn hdb);exact PyProof.Rows.callWith_type1 (thn (ha pos A3 s σ H _ I h) λus s1 ⟨vs,H1,I1,r1,q1⟩=>hc A3 s1 σ H1 vs us Q I1 r1 q1) he hpl
end
end L2
namespace HT
open PySem PyProof.Rows
section
open PySem.SeqAt
open PySem.AutoSeq1 (wpAny_loadPart')
open PySem.MeetsSeq PySem.MeetsSeq2 PySem.MeetsSeq3
end
section
variable{prog:Program}{w:World}{A:Around}{E:Value->Shared->Prop}{s:Shared}
def cat_tup(ht:IsTup s.heap t vs.toArray)(hb:IsTup s.heap b ws.toArray)(hv:vs≠[])(h1:ws=[]->Q (.ref t) s)(h2:ws≠[]->Q (.ref s.heap.objs.size) { s with heap:=s.heap.push { cls:=.type "tuple",data:=.seq (vs++ws).toArray } })(hsz:vs.length+ws.length<=sizeLine):wpAny (model prog w) A (binaryOp .Add (.ref t) (.ref b)) Q E s:=by
 obtain⟨⟨cls,dd,data,sl⟩,ho,hc,n,hd⟩:=id ht;obtain⟨⟨cls2,dd2,data2,sl2⟩,ho2,hc2,n2,hd2⟩:=id hb;simp only at hc hd hc2 hd2;subst hc hd hc2 hd2;have e:vs.toArray++ws.toArray=(vs++ws).toArray:=by simp
 by_cases hw:ws=[]
 ·exact concat_meets ⟨_,ho,rfl⟩ ⟨_,ho2,rfl⟩ noFill_tuple_add seq_tuple_add PySem.F.slot_tuple_add PySem.F.entry_tuple_add (PySem.F.args_tuple_add_2 _ _)
   (tuple_addW1 t b vs.toArray ws.toArray n n2 dd dd2 sl sl2 (by simpa using hv) (by simp[hw])) ⟨ho,ho2,h1 hw⟩
 ·refine concat_meets ⟨_,ho,rfl⟩ ⟨_,ho2,rfl⟩ noFill_tuple_add seq_tuple_add PySem.F.slot_tuple_add PySem.F.entry_tuple_add (PySem.F.args_tuple_add_2 _ _)
   (tuple_addW2 t b vs.toArray ws.toArray n n2 dd dd2 sl sl2 (by simpa using hv) (by simpa using hw) (by rw[Af0,Af0];exact hsz)) ⟨ho,ho2,?_⟩
  rw[e];exact h2 hw
def sIx(n d:Nat):Option Int->Nat
 | none=>d
 | some v=>if v<0 then (v+(n:Int)).toNat else min v.toNat n
def sIx_nat(n d k:Nat):sIx n d (some (k:Int))=min k n:=by
 show (if (k:Int)<0 then ((k:Int)+(n:Int)).toNat else min (k:Int).toNat n)=min k n;rw[if_neg (by omega),As0]
theorem wo4(n d:Nat)(hd:d<=n)(o:Option Int):sIx n d o<=n:=by
 cases o with
 | none=>exact hd
 | some v=>
   show (if v<0 then (v+(n:Int)).toNat else min v.toNat n)<=n;by_cases hv:v<0
   ·rw[if_pos hv];omega
   ·rw[if_neg hv];exact Nat.min_le_right _ _
def xv9(v:Int)(n d:Nat):(if v<0 then max (v+(n:Int)) 0 else min v (n:Int))=((sIx n d (some v):Nat):Int):=by
 show (if v<0 then max (v+(n:Int)) 0 else min v (n:Int))=(((if v<0 then (v+(n:Int)).toNat else min v.toNat n):Nat):Int);by_cases hv:v<0
 ·simp only[if_pos hv];omega
 ·simp only[if_neg hv];omega
def xn3(lo hi:Option Int)(n:Nat):Builtin.Slice.sliceAdjust lo hi 1 (n:Int)=(((sIx n 0 lo:Nat):Int),((sIx n n hi:Nat):Int)):=by
 have h1:¬((1:Int)<0):=by omega
 unfold Builtin.Slice.sliceAdjust;simp only[h1,if_false];refine Prod.ext ?_ ?_
 ·cases lo with
  | none=>rfl
  | some v=>exact xv9 v n 0
 ·cases hi with
  | none=>rfl
  | some v=>exact xv9 v n n
def xl2(i j:Nat):Builtin.Slice.slicePlaces (i:Int) (j:Int) 1=j-i:=by
 unfold Builtin.Slice.slicePlaces;have h1:(1:Int)>0:=by omega
 simp only[h1,if_true,Int.ediv_one];split<;>omega
theorem yl8(p:IsPart v o)(h:Q o s):wpAny (model prog w) A (Builtin.Slice.slicePartIndex v) Q E s:=by
 cases p with
 | none=>exact slicePart_none h
 | int i t=>exact slicePart_int h
def ye5{sl:Addr}{vl vu:Value}{lo hi:Option Int}{n:Nat}{Q:Int×Int×Nat->Shared->Prop}(hs:s.heap.IsSliceOf sl vl vu .none)(pl:IsPart vl lo)(pu:IsPart vu hi)(h:Q (((sIx n 0 lo:Nat):Int),1,sIx n n hi-sIx n 0 lo) s):wpAny (model prog w) A (Builtin.Slice.sliceApplied (.ref sl) (pure (n:Int))) Q E s:=by
 obtain⟨os,hos,hcs,hds⟩:=id hs;unfold Builtin.Slice.sliceApplied Builtin.Slice.sliceFields;refine Aa1 (Aa1 (Ac1 hos hds (x:=vl) rfl (Aa1 (Ac1 hos hds (x:=vu) rfl (Aa1 (Ac1 hos hds (x:=.none) rfl (Ab1 ?_)))))));refine Aa1 (slicePart_none ?_);show wpAny _ _ (if ((1:Int) == 0)=true then _ else _) _ _ s;rw[if_neg (by decide)];refine Aa1 (yl8 pl (Aa1 (yl8 pu (Aa1 (Ab1 ?_)))));show wpAny _ _ (match Builtin.Slice.sliceAdjust lo hi 1 (n:Int) with | (lo,hi)=>pure (lo,(1:Int),Builtin.Slice.slicePlaces lo hi 1)) _ _ s;rw[xn3 lo hi n];show wpAny _ _ (pure (((sIx n 0 lo:Nat):Int),(1:Int),Builtin.Slice.slicePlaces ((sIx n 0 lo:Nat):Int) ((sIx n n hi:Nat):Int) 1)) _ _ s;rw[xl2];exact Ab1 h
open H in
def xz3(xs:Array Value)(i k:Nat):((List.range k).filterMap λ(m:Nat)=>xs[((i:Int)+(m:Int)*1).toNat]?).toArray=((xs.toList.drop i).take k).toArray:=by
 have e:(λ(m:Nat)=>xs[((i:Int)+(m:Int)*1).toNat]?)=λm=>xs[i+m]?:=by
  funext m;have:((i:Int)+(m:Int)*1).toNat=i+m:=by omega
  rw[this]
 rw[e];have:=pick_run xs i k;rw[List.filterMap_map] at this;have e2:((λx=>xs[x]?) ∘ λx=>i+x)=λm=>xs[i+m]?:=rfl
 rw[e2] at this;rw[this]
def getItem_tuple_cut{t sl:Addr}{items:Array Value}{vl vu:Value}{lo hi:Option Int}{Q:Value->Shared->Prop}(ht:IsTup s.heap t items)(hs:s.heap.IsSliceOf sl vl vu .none)(pl:IsPart vl lo)(pu:IsPart vu hi)(hw:¬(sIx items.size 0 lo=0/\sIx items.size items.size hi=items.size))(h:Q (.ref s.heap.objs.size) { s with heap:=s.heap.push { cls:=.type "tuple",data:=.seq ((items.toList.drop (sIx items.size 0 lo)).take (sIx items.size items.size hi-sIx items.size 0 lo)).toArray } })(hsz:items.size<=sizeLine):wpAny (model prog w) A (getItem (.ref t) (.ref sl)) Q E s:=by
 have htake:sizeOk (.seq ((items.toList.drop (sIx items.size 0 lo)).take (sIx items.size items.size hi-sIx items.size 0 lo)).toArray):=by
  show ((items.toList.drop (sIx items.size 0 lo)).take (sIx items.size items.size hi-sIx items.size 0 lo)).toArray.size<=sizeLine;rw[Af0,Bf0,List.length_drop,Ck0];omega
 have hj:sIx items.size items.size hi<=items.size:=wo4 _ _ (Al0 _) hi;obtain⟨os,hos,hcs,hds⟩:=id hs;have hTs:s.TypeIs (.ref sl) "slice":=⟨os,hos,hcs⟩;unfold getItem;try with_reducible refine wpAny_holding ?_
 first | refine Aa1 (Ab1 ?_) | skip
 refine Aa1 (wpAny_sequenceKey ht.typeIs (by decide) ?_);refine Aa1 (wpAny_callSpecial?_slot (name:=Str.ofString "__getitem__") ht.typeIs PyProof.Rows.slot_tuple_getitem (Ag1 PyProof.Rows.slot_tuple_getitem ht.typeIs entry_tuple_getitem ?_ (args_tuple_getitem _ _)));show wpAny _ _ (Builtin.Tuple.tupleItemsOf (.ref t) >>= _) _ _ s;refine Aa1 (tupleItemsOf_ ht ?_);refine Aa1 (wpAny_typeOf hTs ?_);rw[if_pos (by decide)];refine Aa1 (ye5 hs pl pu ?_);have hno:¬((((sIx items.size 0 lo:Nat):Int) == 0&&(1:Int) == 1&&(sIx items.size items.size hi-sIx items.size 0 lo) == items.size)=true):=by
  intro q;rw[Bool.and_eq_true,Bool.and_eq_true] at q;have q1:((sIx items.size 0 lo:Nat):Int)=0:=eq_of_beq q.1.1;have q2:sIx items.size items.size hi-sIx items.size 0 lo=items.size:=eq_of_beq q.2;exact hw ⟨by omega,by omega⟩
 show wpAny _ _ (if (((sIx items.size 0 lo:Nat):Int) == 0&&(1:Int) == 1&&(sIx items.size items.size hi-sIx items.size 0 lo) == items.size)=true then _ else _) _ _ s;rw[if_neg hno,xz3];first
  | exact Aa1 (m:=Builtin.Tuple.tupleExact _) (wpAny_newObj_type (Ab1 ⟨_,rfl,Ab1 h⟩) htake)
  | exact Aa1 (m:=Builtin.Tuple.tupleExact _) (wpAny_newObj_type (Aa1 (Ab1 (Ab1 ⟨_,rfl,Ab1 h⟩))) htake)
  | exact Aa1 (Aa1 (m:=Builtin.Tuple.tupleExact _) (wpAny_newObj_type (Ab1 (Ab1 ⟨_,rfl,Ab1 h⟩)) htake))
  | exact Aa1 (Aa1 (m:=Builtin.Tuple.tupleExact _) (wpAny_newObj_type (Ab1 ⟨_,rfl,Ab1 h⟩) htake))
end
end HT
namespace L2
abbrev TO:=St->Hp->(Option Int->Hp->Prop)->Prop
def PO(X:Cx)(e:Option Expr)(t:TO):Prop:=
 ∀(A3:List (Addr×Obj)) (s:Shared) (σ:St) (H:Hp) (Q:Option Int->Hp->Prop),Inv X A3 σ H s->t σ H Q->
  wpAny (model X.prog X.w) X.A (evalPart e X.env) (λu s'=>∃o H',Inv X A3 σ H' s'/\IsPart u o/\Q o H') X.xe s
def wh8:TO:=λ_ H Q=>Q none H
def vt0(t:TE):TO:=λσ H Q=>t σ H λx H1=>∃i,x=.int i/\Q (some i) H1
theorem xm6{ns:List Int}:∀{us:List Value},wv6 (ns.map V.int) us->IntsAre us ns:=by
 induction ns with
 | nil=>intro us r;rw[List.map_nil] at r;cases r;exact .nil
 | cons n ns ih=>
   intro us r;rw[Ax0] at r;cases r with
   | cons r1 r2=>
     obtain⟨t,e⟩:=r1;subst e;exact .cons n t (ih r2)
section
variable{X:Cx}{e:Expr}{te:TE}{lo hi:Option Expr}{tl th:TO}{pos p2:Pos}
def xq4:PO X none wh8:=by
 intro A3 s σ H Q I h;rw[evalPart_none];exact Ab1 ⟨none,H,I,.none,h⟩
def xq3(h:PE X e te):PO X (some e) (vt0 te):=by
 intro A3 s σ H Q I hw;rw[evalPart_some];refine thn (h A3 s σ H _ I hw) λu s1 hI86=>?_
 obtain⟨x,H1,I1,r1,q1⟩:=hI86;obtain⟨i,rfl,q⟩:=q1;obtain⟨t,rfl⟩:=r1;exact⟨some i,H1,I1,.int i t,q⟩
def SlR(X:Cx)(r:V->Option Int->Option Int->Hp->VK->Prop):Prop:=
 ∀(A3:List (Addr×Obj)) (s:Shared) (σ:St) (H:Hp) (x:V) (v vl vu:Value) (lo hi:Option Int) (sl:Addr) (Q:VK),Inv X A3 σ H s->wv5 x v->s.heap.IsSliceOf sl vl vu .none->IsPart vl lo->IsPart vu hi->r x lo hi H Q->
  ∃T id,typeLookup (.type T) "__getitem__" = pure (some (.builtin id))/\s.TypeIs v T/\wpAny (model X.prog X.w) X.A (getItem v (.ref sl)) (EP X A3 σ Q) X.xe s
def SlR.or(h:SlR X r)(h':SlR X r'):SlR X (λx lo hi H Q=>r x lo hi H Q\/r' x lo hi H Q):=by
 intro A3 s σ H x v vl vu lo hi sl Q I rx hs pl pu q;rcases q with q | q
 ·exact h A3 s σ H x v vl vu lo hi sl Q I rx hs pl pu q
 ·exact h' A3 s σ H x v vl vu lo hi sl Q I rx hs pl pu q
def tSl(r:V->Option Int->Option Int->Hp->VK->Prop)(te:TE)(tl th:TO):TE:=λσ H Q=>te σ H λx H1=>tl σ H1 λl H2=>th σ H2 λu H3=>r x l u H3 Q
def xf1(hr:SlR X r)(he:PE X e te)(hl:PO X lo tl)(hu:PO X hi th):PE X (.Subscript e (.Slice lo hi none p2) pos) (tSl r te tl th):=by
 intro A3 s σ H Q I h;refine Subscript_ (thn (he A3 s σ H _ I h) λv s1 hI87=>?_);obtain⟨x,H1,I1,r1,q1⟩:=hI87;refine wpAny_Slice (thn (hl A3 s1 σ H1 _ I1 q1) λvl s2 ⟨l,H2,I2,pl,q2⟩=>thn (hu A3 s2 σ H2 _ I2 q2) λvu s3 hI88=>?_);obtain⟨u,H3,I3,pu,q3⟩:=hI88;rw[evalPart_none];refine Ab1 ?_;have I4:Inv X A3 σ H3 { s3 with heap:=s3.heap.push { cls:=.type "slice",data:=.fields #[vl,vu,.none] } }:=I3.kept (t':=s3.toks) λb ob q=>Ab0 _ q
 obtain⟨T,id,hT,ht,hg⟩:=hr A3 { s3 with heap:=s3.heap.push { cls:=.type "slice",data:=.fields #[vl,vu,.none] } } σ H3 x v vl vu l u s3.heap.objs.size Q I4 r1 (Heap.IsSliceOf.new ..) pl pu q3;show wpAny (model X.prog X.w) X.A (subscriptTail e (.Slice lo hi none p2) v (.ref s3.heap.objs.size)) (EP X A3 σ Q) X.xe { s3 with heap:=s3.heap.push { cls:=.type "slice",data:=.fields #[vl,vu,.none] } };exact tail_any (ops:=[.ref s3.heap.objs.size,v]) ht hT hg (by with_unfolding_all rfl)
def vh5(xs:List V)(lo hi:Option Int):List V:=(xs.drop (HT.sIx xs.length 0 lo)).take (HT.sIx xs.length xs.length hi-HT.sIx xs.length 0 lo)
def yk5(xs:List V)(lo hi:Option Int):(vh5 xs lo hi).length<=xs.length:=by
 unfold vh5;rw[Bf0,List.length_drop];omega
def ud9(K:PySem.W.Frag):V->Option Int->Option Int->Hp->VK->Prop:=λx lo hi H Q=>∃a xs,x=.ref a/\SqT K H a xs/\
 ¬(HT.sIx xs.length 0 lo=0/\HT.sIx xs.length xs.length hi=xs.length)/\∀p,H p=none->Q (.ref p) (upd H p (.tup (vh5 xs lo hi)))
def wo3:SlR X (ud9 X.K):=by
 intro A3 s σ H x v vl vu lo hi sl Q I rx hs pl pu h;obtain⟨a,xs,rfl,hx,hw,q⟩:=h;cases rx;obtain⟨its,r,ht,hz⟩:=I.tuple hx;have hlen:its.toArray.size=xs.length:=by rw[Af0];exact r.length.symm
 refine⟨"tuple",_,PyProof.Rows.slot_tuple_getitem.lookup,ht.typeIs,?_⟩;refine HT.getItem_tuple_cut ht hs pl pu (by rw[hlen];exact hw) ?_ (by rw[hlen];exact hz);rw[hlen];refine⟨.ref s.heap.objs.size,_,I.laid (t':=s.toks) (o:=.tup (vh5 xs lo hi)) (λb ob q=>Ab0 _ q) (Al0 _) ?_,rfl,q _ (I.hok.fresh (Al0 _))⟩;exact⟨Av0 (yk5 xs lo hi) hz,_,(r.drop (HT.sIx xs.length 0 lo)).take (HT.sIx xs.length xs.length hi-HT.sIx xs.length 0 lo),IsTup.new _ _,⟨_,Ak0 _ rfl,rfl⟩⟩
def vi7(K:PySem.W.Frag):R2:=λx y H Q=>∃a b xs ys,x=.ref a/\y=.ref b/\SqT K H a xs/\SqT K H b ys/\xs≠[]/\xs.length+ys.length<=sizeLine/\
 (ys=[]->Q (.ref a) H)/\(ys≠[]->∀p,H p=none->Q (.ref p) (upd H p (.tup (xs++ys))))
theorem wv6.nil_iff(r:wv6 xs us):us=[]↔xs=[]:=by
 cases r with
 | nil=>simp
 | cons _ _=>simp
def wj3:OpR X (binaryOp .Add) (vi7 X.K):=by
 intro A3 s σ H x y v u Q I rx ry h;obtain⟨a,b,xs,ys,rfl,rfl,ha,hb,hx,hz,q1,q2⟩:=h;cases rx;cases ry;obtain⟨its,r1,p1,_⟩:=I.tuple ha;obtain⟨its2,r2,p2,_⟩:=I.tuple hb;refine HT.cat_tup p1 p2 (λz=>hx (r1.nil_iff.mp z)) (λz=>⟨.ref a,H,I,rfl,q1 (r2.nil_iff.mp z)⟩) (λz=>?_) (by rw[<-r1.length,<-r2.length];exact hz);refine⟨.ref s.heap.objs.size,_,I.laid (t':=s.toks) (o:=.tup (xs++ys)) (λb ob q=>Ab0 _ q) (Al0 _) ?_,rfl,q2 (λw=>z (r2.nil_iff.mpr w)) _ (I.hok.fresh (Al0 _))⟩;exact⟨by rw[An0];exact hz,_,r1.append r2,IsTup.new _ _,⟨_,Ak0 _ rfl,rfl⟩⟩
end
def ixN(n:Nat)(i:Int):Option Nat:=if 0<=i then (if i<n then some i.toNat else none) else if -(n:Int)<=i then some (i+n).toNat else none
def atI{α:Type}(xs:List α)(i:Int):Option α:=(ixN xs.length i).bind λj=>xs[j]?
def xt6{n:Nat}{i:Int}{j:Nat}(h:ixN n i=some j):seqIndex? i n=some j/\j<n/\-(n:Int)<=i/\i<n:=by
 unfold ixN at h;by_cases h0:0<=i
 ·rw[if_pos h0] at h
  by_cases h1:i<n
  ·rw[if_pos h1] at h
   have e:i.toNat=j:=Option.some.inj h;exact⟨by rw[seqIndex_of h0 h1,e],by omega,by omega,h1⟩
  ·rw[if_neg h1] at h;cases h
 ·rw[if_neg h0] at h
  by_cases h1:-(n:Int)<=i
  ·rw[if_pos h1] at h
   have e:(i+n).toNat=j:=Option.some.inj h;exact⟨by rw[seqIndex_neg (by omega) h1,e],by omega,h1,by omega⟩
  ·rw[if_neg h1] at h;cases h
theorem xc6{α:Type}{xs:List α}{i:Int}{v:α}(h:atI xs i=some v):∃j,seqIndex? i xs.length=some j/\xs[j]?=some v/\j<xs.length/\-(xs.length:Int)<=i/\i<xs.length:=by
 unfold atI at h;cases e:ixN xs.length i with
 | none=>rw[e] at h;cases h
 | some j=>
   rw[e] at h;obtain⟨h1,h2,h3,h4⟩:=xt6 e;exact⟨j,h1,h,h2,h3,h4⟩
def xc5{α:Type}{xs:List α}{j:Nat}{v:α}(h:xs[j]?=some v):atI xs (j:Int)=some v:=by
 have hj:j<xs.length:=(Ac0.mp h).1;have e:ixN xs.length (j:Int)=some j:=by
  unfold ixN;rw[if_pos (by omega),if_pos (by omega)];simp
 unfold atI;rw[e];exact h
def yl2(b:Expr):Prop:=∀o i,subscripted b false o i=operate [o,i] (getItem o i)
def IxR(X:Cx)(r:R2):Prop:=
 ∀(value slice:Expr) (A3:List (Addr×Obj)) (s:Shared) (σ:St) (H:Hp) (x y:V) (v u:Value) (Q:VK),Inv X A3 σ H s->wv5 x v->wv5 y u->r x y H Q->
  subscripted slice false v u=operate [v,u] (getItem v u)->wpAny (model X.prog X.w) X.A (subscriptTail value slice v u) (EP X A3 σ Q) X.xe s
def MtR(X:Cx)(id:String)(r:V->List V->Hp->VK->Prop):Prop:=
 ∀(A3:List (Addr×Obj)) (s:Shared) (σ:St) (H:Hp) (x:V) (xs:List V) (v:Value) (us:List Value) (Q:VK),Inv X A3 σ H s->wv5 x v->wv6 xs us->r x xs H Q->
  wpAny (model X.prog X.w) X.A (call (.builtin id) (v::us)) (EP X A3 σ Q) X.xe s
section
variable{X:Cx}{a b:Expr}{ta tb:TE}{pos:Pos}
def IxR.or(h:IxR X r)(h':IxR X r'):IxR X (λx y H Q=>r x y H Q\/r' x y H Q):=by
 intro value slice A3 s σ H x y v u Q I rx ry q hs;rcases q with q | q
 ·exact h value slice A3 s σ H x y v u Q I rx ry q hs
 ·exact h' value slice A3 s σ H x y v u Q I rx ry q hs
def vg4(hr:IxR X r)(ha:PE X a ta)(hb:PE X b tb)(hs:yl2 b):PE X (.Subscript a b pos) (tOp r ta tb):=by
 intro A3 s σ H Q I h;exact Subscript_ (vy7 ha hb I h λv u s2 x y H2 I2 rx ry q=>hr a b A3 s2 σ H2 x y v u Q I2 rx ry q (hs _ _))
def vz9(K:PySem.W.Frag):R2:=λx y H Q=>∃p xs i v,x=.ref p/\y=.int i/\SqL K H p xs/\atI xs i=some v/\Q v H
def vz7(K:PySem.W.Frag):R2:=λx y H Q=>∃p xs i v,x=.ref p/\y=.int i/\SqT K H p xs/\atI xs i=some v/\Q v H
def vz8:R2:=λx y H Q=>∃z i c,x=.str z/\y=.int i/\z.length<=sizeLine/\atI z.cps.toList i=some c/\Q (.str ⟨#[c]⟩) H
def xt5:IxR X (vz9 X.K):=by
 intro value slice A3 s σ H x y v u Q I rx ry h hs;obtain⟨p,xs,i,z,rfl,rfl,hq,he,q⟩:=h;cases rx;obtain⟨t,rfl⟩:=ry;obtain⟨its,r,pl,hz⟩:=I.list hq;obtain⟨j,h1,h2,h3,h4,h5⟩:=xc6 he;obtain⟨w,ew,rw'⟩:=r.get h2;have hl:=r.length;have hn:=yv9;have fin:EP X A3 σ Q w s:=⟨z,H,I,rw',q⟩;by_cases h0:0<=i
 ·have hj:i.toNat=j:=by
   rw[seqIndex_of h0 h5] at h1;exact Option.some.inj h1
  exact item_listR pl.isList h0 (by omega) (by rw[hj];simpa using ew) fin hs
 ·have hj:(i+(its.toArray.size:Int)).toNat=j:=by
   rw[seqIndex_neg (by omega) h4] at h1;rw[Af0,<-hl];exact Option.some.inj h1
  exact subscriptTail_builtinR (x:=w) pl.isList.typeIs slot_list_getitem.lookup
   (wpAny_getItem_list_neg (Q:=λr s'=>r=w/\EP X A3 σ Q r s') pl.isList (by omega) (by rw[Af0]<;>omega) (by omega) (by rw[hj];simpa using ew) ⟨rfl,fin⟩) hs
def xg9:IxR X (vz7 X.K):=by
 intro value slice A3 s σ H x y v u Q I rx ry h hs;obtain⟨p,xs,i,z,rfl,rfl,hq,he,q⟩:=h;cases rx;obtain⟨t,rfl⟩:=ry;obtain⟨its,r,pl,hz⟩:=I.tuple hq;obtain⟨j,h1,h2,h3,h4,h5⟩:=xc6 he;obtain⟨w,ew,rw'⟩:=r.get h2;have hl:=r.length;have hn:=yv9;have fin:EP X A3 σ Q w s:=⟨z,H,I,rw',q⟩;exact subscriptTail_builtinR (x:=w) pl.typeIs slot_tuple_getitem.lookup
  (getItem_tuple (j:=j) (Q:=λr s'=>r=w/\EP X A3 σ Q r s') pl (by omega) (by omega) (by rw[Af0,<-hl];exact h1) (by simpa using ew) ⟨rfl,fin⟩) hs
def ws0:IxR X vz8:=by
 intro value slice A3 s σ H x y v u Q I rx ry h hs;obtain⟨z,i,c,rfl,rfl,hz,he,q⟩:=h;obtain⟨t,rfl⟩:=rx;obtain⟨t',rfl⟩:=ry;obtain⟨j,h1,h2,h3,h4,h5⟩:=xc6 he;have hl:z.cps.toList.length=z.length:=by simp[Str.length]
 rw[hl] at h1 h4 h5;have hn:=yv9;exact tail_any (typeIs_str s z t) slot_str_getitem.lookup (getItem_str (c:=c) (by
  have e1:decide (i < -(2 ^ 63:Int))=false:=Ai1 (by omega);have e2:decide (i>=2 ^ 63)=false:=Ai1 (by omega);rw[e1,e2,Bool.or_false]) (by rw[h1];simpa using h2) ⟨.str ⟨#[c]⟩,H,I.tok _,⟨_,rfl⟩,q⟩) hs
def rIx(K:PySem.W.Frag):R2:=λx y H Q=>vz9 K x y H Q\/vz7 K x y H Q\/vz8 x y H Q
def wf3:IxR X (rIx X.K):=xt5.or (xg9.or ws0)
def xl9(its:List Value)(n j:Nat)(u:Value):Obj.mapSeq (·.setIfInBounds j u) { cls:=.type "list",data:=.seq its.toArray n }={ cls:=.type "list",data:=.seq (its.set j u).toArray n }:=by
 simp[Obj.mapSeq]
def Inv.lst{A3:List (Addr×Obj)}{σ:St}{H:Hp}{s:Shared}{p:Addr}{xs:List V}(I:Inv X A3 σ H s)(h:H p=some (.lst xs)) :
 ∃(its:List Value) (n:Nat),wv6 xs its/\s.heap.get? p=some { cls:=.type "list",data:=.seq its.toArray n }/\xs.length<=sizeLine:=by
 obtain⟨z,its,n,r,e⟩:=I.hok p _ h;exact⟨its,n,r,e,z⟩
def Inv.lstUpd{A3:List (Addr×Obj)}{σ:St}{H:Hp}{s:Shared}{p:Addr}{xs ys:List V}{its its':List Value}{n n':Nat}{f:Obj->Obj}(I:Inv X A3 σ H s)(h:H p=some (.lst xs))(ho:s.heap.get? p=some { cls:=.type "list",data:=.seq its.toArray n })(hf:f { cls:=.type "list",data:=.seq its.toArray n }={ cls:=.type "list",data:=.seq its'.toArray n' })(r:wv6 ys its')(hz:ys.length<=sizeLine)(t:Nat) :
 Inv X A3 σ (upd H p (.lst ys)) { s with heap:=s.heap.update p f,toks:=t }:=by
 have e:(s.heap.update p f).get? p=some { cls:=.type "list",data:=.seq its'.toArray n' }:=by
  rw[Ce0 f ho (by rw[hf]<;>rfl),hf]
 refine I.write (x:=p) (e:=p) (by rw[h];trivial) (.inl rfl) (λb u hb q=>(Cm0 _ _ (Ne.symm hb)).trans q) ⟨_,e⟩ ?_;exact⟨hz,its',n',r,e⟩
def vo2:V->V->V->Hp->(Hp->Prop)->Prop:=λo i v H Q=>∃p xs k j,o=.ref p/\i=.int k/\H p=some (.lst xs)/\ixN xs.length k=some j/\Q (upd H p (.lst (xs.set j v)))
def ye6:uc0 X vo2:=by
 intro A3 s σ H o i v ov iv u Q I ro ri rv h;obtain⟨p,xs,k,j,rfl,rfl,hp,hj,q⟩:=h;cases ro;obtain⟨t,rfl⟩:=ri;obtain⟨its,n,r,ho,hz⟩:=I.lst hp;obtain⟨h1,h2,h3,h4⟩:=xt6 hj;have hl:=r.length;have hn:=yv9;have I':Inv X A3 σ (upd H p (.lst (xs.set j v))) { s with heap:=s.heap.update p (Obj.mapSeq (·.setIfInBounds j u)) }:=
  I.lstUpd hp ho (xl9 its n j u) (r.set rv j) (by rw[Bu0];exact hz) s.toks
 by_cases h0:0<=k
 ·have hk:k.toNat=j:=by
   rw[seqIndex_of h0 h4] at h1;exact Option.some.inj h1
  exact PySem.W.ki_setAt ho h0 (by omega) (by rw[Af0,<-hl];exact h4) (by rw[hk];exact⟨_,I',q⟩)
 ·have hk:(k+(its.toArray.size:Int)).toNat=j:=by
   rw[seqIndex_neg (by omega) h3] at h1;rw[Af0,<-hl];exact Option.some.inj h1
  exact PySem.W.ki_setBack ho (by omega) (by rw[Af0,<-hl];exact h3) (by omega) (by rw[hk];exact⟨_,I',q⟩)
def yt8(lo hi:Option Int)(n:Nat):(sliceBounds lo hi none n).1=((HT.sIx n 0 lo:Nat):Int)/\(sliceBounds lo hi none n).2.1=((HT.sIx n n hi:Nat):Int)/\(sliceBounds lo hi none n).2.2=1:=by
 refine⟨?_,?_,rfl⟩
 ·cases lo with
  | none=>simp[sliceBounds,HT.sIx]
  | some i=>
    simp only[sliceBounds,HT.sIx,Option.getD_none,show (1:Int)>0 by decide,if_true];by_cases h:i<0
    ·simp only[h,if_true]<;>omega
    ·simp only[h,if_false]<;>omega
 ·cases hi with
  | none=>simp[sliceBounds,HT.sIx]
  | some i=>
    simp only[sliceBounds,HT.sIx,Option.getD_none,show (1:Int)>0 by decide,if_true];by_cases h:i<0
    ·simp only[h,if_true]<;>omega
    ·simp only[h,if_false]<;>omega
def yp6(its:List Value)(lo hi:Option Int):slicePick its.toArray lo hi none=((its.drop (HT.sIx its.length 0 lo)).take (HT.sIx its.length its.length hi-HT.sIx its.length 0 lo)).toArray:=by
 obtain⟨h1,h2,h3⟩:=yt8 lo hi its.toArray.size;unfold slicePick;rw[h1,h2,h3];simp only[sliceRange_one,pick_run,Af0]<;>rfl
def ue0(K:PySem.W.Frag):V->Option Int->Option Int->Hp->VK->Prop:=λx lo hi H Q=>∃a xs,x=.ref a/\SqL K H a xs/\∀p,H p=none->Q (.ref p) (upd H p (.lst (vh5 xs lo hi)))
def xo9:SlR X (ue0 X.K):=by
 intro A3 s σ H x v vl vu lo hi sl Q I rx hs pl pu h;obtain⟨a,xs,rfl,hx,q⟩:=h;cases rx;obtain⟨its,r,ht,hz⟩:=I.list hx;have hlen:=r.length;refine⟨"list",_,slot_list_getitem.lookup,ht.isList.typeIs,?_⟩;refine wpAny_getItem_list_slice ht.isList hs pl pu .none (by simp) ?_ (by rw[Af0]<;>omega);rw[yp6,<-hlen];refine⟨.ref s.heap.objs.size,_,I.laid (t':=s.toks) (o:=.lst (vh5 xs lo hi)) (λb ob q=>Ab0 _ q) (Al0 _) ?_,rfl,q _ (I.hok.fresh (Al0 _))⟩;exact⟨Av0 (yk5 xs lo hi) hz,_,0,(r.drop (HT.sIx xs.length 0 lo)).take (HT.sIx xs.length xs.length hi-HT.sIx xs.length 0 lo),Ak0 _ rfl⟩
def zc6:wy3 X (.builtin "len") (λxs H Q=>∃p ys,xs=[.ref p]/\(SqL X.K H p ys\/SqT X.K H p ys)/\Q (.int ys.length) H):=by
 intro A3 s σ H xs us Q I r h;obtain⟨p,ys,rfl,hq,q⟩:=h;obtain⟨u,rfl,rx⟩:=va4 r;cases rx;have hn:=yv9;rcases hq with hq | hq
 ·obtain⟨its,r',pl,hz⟩:=I.list hq
  have hlen:=r'.length;exact Calls.call_len_list pl.isList (by simp only[Af0]<;>omega) ⟨.int ys.length,H,I.tok _,⟨s.toks+1,by rw[Af0,hlen]⟩,q⟩
 ·obtain⟨its,r',pl,hz⟩:=I.tuple hq
  have hlen:=r'.length;exact len_tuple pl (by simp only[Af0]<;>omega) ⟨.int ys.length,H,I.tok _,⟨s.toks+1,by rw[Af0,hlen]⟩,q⟩
def zp4:wy3 X (.type "list") (λxs H Q=>∃p ys,xs=[.ref p]/\(SqL X.K H p ys\/SqT X.K H p ys)/\∀l,H l=none->Q (.ref l) (upd H l (.lst ys))):=by
 intro A3 s σ H xs us Q I r h;obtain⟨p,ys,rfl,hq,q⟩:=h;obtain⟨u,rfl,rx⟩:=va4 r;cases rx;have fin:∀(its:List Value),wv6 ys its->ys.length<=sizeLine->∀(h':Heap) (c':Nat),(∀b o',s.heap.get? b=some o'->h'.get? b=some o')->
  h'.get? s.heap.objs.size=some { cls:=.type "list",dict:=none,data:=.seq its.toArray c',slots:=#[] }->EP X A3 σ Q (.ref s.heap.objs.size) { s with heap:=h' }:=λits r' hz h' c' kp e=>
  ⟨.ref s.heap.objs.size,_,I.laid (t':=s.toks) kp (Al0 _) (show ww4 X.prog X.w _ h' _ (.lst ys) from⟨hz,its,c',r',e⟩),rfl,q _ (I.hok.fresh (Al0 _))⟩
 rcases hq with hq | hq
 ·obtain⟨its,r',pl,hz⟩:=I.list hq
  have hlen:=r'.length;obtain⟨o,ho,hc,n,hd⟩:=pl.isList;exact call_list_seq p (.inl rfl) ho hc hd (λh' c' kp e=>fin its r' hz h' c' kp e) (by simp only[Af0]<;>omega)
 ·obtain⟨its,r',pl,hz⟩:=I.tuple hq
  have hlen:=r'.length;obtain⟨o,ho,hc,n,hd⟩:=pl;exact call_list_seq p (.inr rfl) ho hc hd (λh' c' kp e=>fin its r' hz h' c' kp e) (by simp only[Af0]<;>omega)
def zf2:wy3 X (.type "tuple") (λxs H Q=>∃p ys,xs=[.ref p]/\((SqL X.K H p ys/\∀l,H l=none->Q (.ref l) (upd H l (.tup ys)))\/(SqT X.K H p ys/\Q (.ref p) H))):=by
 intro A3 s σ H xs us Q I r h;obtain⟨p,ys,rfl,h⟩:=h;obtain⟨u,rfl,rx⟩:=va4 r;cases rx;rcases h with⟨hq,q⟩ | ⟨hq,q⟩
 ·obtain⟨its,r',pl,hz⟩:=I.list hq
  have hlen:=r'.length;refine call_tuple_list pl.isList (λh' kp=>?_) (by simp only[Af0]<;>omega);have I1:Inv X A3 σ H { s with heap:=h' }:=I.kept (t':=s.toks) kp;have I2:Inv X A3 σ (upd H h'.objs.size (.tup ys)) { s with heap:=h'.push { cls:=.type "tuple",data:=.seq its.toArray } }:=
   I1.laid (t':=s.toks) (λb o e=>Ab0 _ e) (Al0 _) (show ww4 X.prog X.w _ _ _ (.tup ys) from⟨hz,its,r',IsTup.new _ _,⟨_,Ak0 _ rfl,rfl⟩⟩)
  exact⟨.ref h'.objs.size,_,I2,rfl,q _ (I1.hok.fresh (Al0 _))⟩
 ·obtain⟨its,r',pl,hz⟩:=I.tuple hq
  exact call_tuple_same pl ⟨.ref p,H,I,rfl,q⟩
def tyV(K:PySem.W.Frag)(T:String)(x:V)(H:Hp):Prop:=match x with
 | .str _=>T = "str"
 | .int _=>T = "int"
 | .ref p=>(T = "list"/\∃xs,SqL K H p xs)\/(T = "tuple"/\∃o,K.lookup p=some o/\o.cls=.type "tuple"/\o.dict=none)\/
  (T = "dict"/\((∃kvs,H p=some (.dK kvs))\/∃kvs,H p=some (.dT kvs)))\/(T = "set"/\∃S n,H p=some (.set S n))
 | _=>False
theorem wd3{T:String}(I:Inv X A3 σ H s)(r:wv5 x v)(ty:tyV X.K T x H) :
 s.TypeIs v T/\∀a,v=.ref a->∃ob,s.heap.get? a=some ob/\ob.dict=none:=by
 cases x with
 | str z=>
   obtain⟨t,rfl⟩:=r;cases (show T = "str" from ty);exact⟨typeIs_str s z t,λ_ e=>nomatch e⟩
 | int i=>
   obtain⟨t,rfl⟩:=r;cases (show T = "int" from ty);exact⟨typeIs_int s i t,λ_ e=>nomatch e⟩
 | ref p=>
   cases r;rcases ty with⟨rfl,xs,hq⟩ | ⟨rfl,o,hk,hc,hd⟩ | ⟨rfl,hk⟩ | ⟨rfl,S,n,hk⟩
   ·obtain⟨its,_,pl,_⟩:=I.list hq
    refine⟨pl.isList.typeIs,λa e=>?_⟩;cases e;obtain⟨o,n,e,c,hd,_⟩:=pl;exact⟨o,e,hd⟩
   ·refine⟨⟨o,I.kIn p o hk,hc⟩,λa e=>?_⟩
    cases e;exact⟨o,I.kIn _ o hk,hd⟩
   ·have z:∃o,s.heap.get? p=some o/\o.ExactDict:=by
     rcases hk with⟨kvs,hk⟩ | ⟨kvs,hk⟩
     ·obtain⟨_,_,_,_,o,_,_,e,ex,_⟩:=I.hok p _ hk
      exact⟨o,e,ex⟩
     ·obtain⟨_,_,_,_,o,_,_,e,ex,_⟩:=I.hok p _ hk
      exact⟨o,e,ex⟩
    obtain⟨o,e,ex⟩:=z;refine⟨⟨o,e,ex.1⟩,λa e2=>?_⟩;cases e2;exact⟨o,e,ex.2.1⟩
   ·obtain⟨o,_,_,_,e,ex,_⟩:=I.hok p _ hk
    refine⟨⟨o,e,ex.1⟩,λa e2=>?_⟩;cases e2;exact⟨o,e,ex.2.1⟩
 | _=>exact False.elim ty
def ud5(K:PySem.W.Frag)(T:String)(r:V->List V->Hp->VK->Prop)(to:TE):TE:=λσ H Q=>to σ H λx H1=>tyV K T x H1/\r x [] H1 Q
def tBM(K:PySem.W.Frag)(T:String)(r:V->List V->Hp->VK->Prop)(to:TE)(t:TA):TE:=λσ H Q=>to σ H λx H1=>tyV K T x H1/\t σ H1 λxs H2=>r x xs H2 Q
variable{o e:Expr}{es:List Expr}{to:TE}{t:TA}{name:Str}{apos cpos:Pos}{T id:String}{r:V->List V->Hp->VK->Prop}
def wq1(pa:PlainAttrs T)(slot:Slot T name id)(hty:typeOf (.builtin id)=pure (.type "method_descriptor"))(hm:MtR X id r)(ho:PE X o to)(hbase:attributeBase o name X.env (eval o X.env)=eval o X.env:=by rfl)(hline:(apos.endLine == cpos.line)=true:=by rfl):PE X (.Call (.Attribute o name apos) [] [] cpos) (ud5 X.K T r to):=by
 intro A3 s σ H Q I h;refine wpAny_Call_method0_late hbase hline (thn (ho A3 s σ H _ I h) λv s1 hI89=>?_);obtain⟨x,H1,I1,r1,ty,q1⟩:=hI89;obtain⟨h1,h2⟩:=wd3 I1 r1 ty;exact⟨T,id,pa,slot,hty,h1,h2,Calls.callWith_builtin rfl (PySem.evalArgs_none (hm A3 s1 σ H1 x [] v [] Q I1 r1 .nil q1))⟩
def vk7(pa:PlainAttrs T)(slot:Slot T name id)(hty:typeOf (.builtin id)=pure (.type "method_descriptor"))(hm:MtR X id r)(ho:PE X o to)(ha:PA X (e::es) t)(hbase:attributeBase o name X.env (eval o X.env)=eval o X.env:=by rfl)(hfew:((backTo cpos (starEach (e::es) X.env)).all (λx=>!x.1)&&(backToKw cpos (keywordEach [] X.env)).all (λx=>x.1.isSome)
  && decide ((e::es).length+([]:List Keyword).length+(if ([]:List Keyword).isEmpty then 0 else 1)<30))=true:=by rfl)(hline:(apos.endLine == cpos.line)=true:=by rfl)(hs:starEach (e::es) X.env=(false,eval e X.env)::starEach es X.env:=by rfl)(hplain:(backTo cpos (starEach es X.env)).any (·.1)=false:=by rfl) :
 PE X (.Call (.Attribute o name apos) (e::es) [] cpos) (tBM X.K T r to t):=by
 intro A3 s σ H Q I h;refine wpAny_Call_method_late hbase hfew hline rfl (thn (ho A3 s σ H _ I h) λv s1 hI90=>?_);obtain⟨x,H1,I1,r1,ty,q1⟩:=hI90;obtain⟨h1,h2⟩:=wd3 I1 r1 ty;refine⟨T,id,pa,slot,hty,h1,h2,?_⟩;have hA:=ha cpos A3 s1 σ H1 _ I1 q1;rw[hs] at hA ⊢;refine Calls.callWith_builtin (by show (false||(backTo cpos (starEach es X.env)).any (·.1))=false;rw[hplain]<;>rfl) (Calls.evalArgs_plain ?_);exact thn hA λus s2 ⟨vs,H2,I2,r2,q2⟩=>hm A3 s2 σ H2 x vs v us Q I2 r1 r2 q2
end
def MtM(X:Cx)(id:String)(r:V->List V->Hp->VK->Prop):Prop:=
 ∀(A3:List (Addr×Obj)) (s:Shared) (σ:St) (H:Hp) (x:V) (xs:List V) (v:Value) (us:List Value) (Q:VK),Inv X A3 σ H s->wv5 x v->wv6 xs us->r x xs H Q->
  wpAny (model X.prog X.w) X.A (call (.builtin id) (v::us)) (EP X A3 σ Q) X.xe s
theorem wv6.unc{x:V}{xs:List V}{us:List Value}(h:wv6 (x::xs) us):∃u r,us=u::r/\wv5 x u/\wv6 xs r:=by
 cases h with
 | cons r t=>exact⟨_,_,rfl,r,t⟩
def wv6.unn{us:List Value}(h:wv6 [] us):us=[]:=by
 cases h;rfl
def wv6.one{x:V}{us:List Value}(h:wv6 [x] us):∃u,us=[u]/\wv5 x u:=by
 obtain⟨u,r,e,a,b⟩:=h.unc;rw[b.unn] at e;exact⟨u,e,a⟩
theorem wv6.zero:∀{us:List Value},wv6 [] us->us=[]
 | _,.nil=>rfl
theorem wv6.eraseIdx:∀{xs:List V} {us:List Value} (i:Nat),wv6 xs us->wv6 (xs.eraseIdx i) (us.eraseIdx i)
 | _,_,_,.nil=>.nil
 | _,_,0,.cons _ t=>t
 | _,_,i+1,.cons r t=>.cons r (wv6.eraseIdx i t)
theorem wv6.reverse{xs:List V}{us:List Value}(h:wv6 xs us):wv6 xs.reverse us.reverse:=by
 induction h with
 | nil=>exact .nil
 | cons r t ih=>rw[List.reverse_cons,List.reverse_cons];exact wv6.append ih (.cons r .nil)
theorem wv6.rep(h:wv6 xs us):∀k:Nat,wv6 (List.replicate k xs).flatten (List.replicate k us).flatten
 | 0=>.nil
 | k+1=>by
   rw[Bn0,Bn0,Ch0,Ch0];exact wv6.append h (wv6.rep h k)
theorem yj1{α:Type}:∀(l:List α) (i:Nat),(l.eraseIdx i).length<=l.length
 | [],_=>Al0 _
 | _::_,0=>Nat.le_succ _
 | _::r,i+1=>Nat.succ_le_succ (yj1 r i)
theorem yx0(its:List Value):∀(k:Nat) (acc:List Value),
 List.foldl (λx1 x2=>x1++x2) acc.toArray (List.replicate k its.toArray)=(acc++(List.replicate k its).flatten).toArray
 | 0,acc=>by simp
 | k+1,acc=>by
   have e:acc.toArray++its.toArray=(acc++its).toArray:=by simp
   have e2:(acc++its)++(List.replicate k its).flatten=acc++(List.replicate (k+1) its).flatten:=by
    rw[Bn0,Ch0,Cb0]
   rw[<-e2,<-yx0 its k (acc++its),<-e,Bn0,List.foldl_cons]
section
variable{X:Cx}{A3:List (Addr×Obj)}{σ:St}{H:Hp}{s:Shared}{l b:Addr}{xs ys zs:List V}{prog:Program}{w:World}{A:Around}{E:Value->Shared->Prop}
def Inv.lset{its its':List Value}{n:Nat}{f:Array Value->Array Value}{t':Nat}(I:Inv X A3 σ H s)(hH:H l=some (.lst xs))(e:s.heap.get? l=some { cls:=.type "list",data:=.seq its.toArray n })(hf:f its.toArray=its'.toArray)(hv:wv6 ys its')(hz:ys.length<=sizeLine) :
 Inv X A3 σ (upd H l (.lst ys)) { s with heap:=s.heap.update l (Obj.mapSeq f),toks:=t' }:=by
 have q:=PySem.IsL.update e f;rw[hf] at q;refine I.write (x:=l) (e:=l) (by rw[hH];exact trivial) (.inl rfl) (λb' u hb hu=>(Cm0 s.heap (Obj.mapSeq f) (Ne.symm hb)).trans hu) ⟨_,q⟩ ?_;exact⟨hz,its',_,hv,q⟩
def Inv.lnew{t':Nat}(I:Inv X A3 σ H s)(hv:wv6 ys its)(hz:ys.length<=sizeLine) :
 Inv X A3 σ (upd H s.heap.objs.size (.lst ys)) { s with heap:=s.heap.push { cls:=.type "list",data:=.seq its.toArray },toks:=t' }:=
 I.laid (λ_ _ q=>Ab0 _ q) (Al0 _) ⟨hz,its,0,hv,Ak0 _ rfl⟩
def Inv.fresh(I:Inv X A3 σ H s):H s.heap.objs.size=none:=I.hok.fresh (Al0 _)
def Inv.lstM(I:Inv X A3 σ H s)(hH:H l=some (.lst xs)):xs.length<=sizeLine/\∃(its:List Value) (n:Nat),wv6 xs its/\xs.length=its.length/\s.heap.get? l=some { cls:=.type "list",data:=.seq its.toArray n }:=by
 obtain⟨z,its,n,r,e⟩:=I.hok l _ hH;exact⟨z,its,n,r,r.length,e⟩
def xf5{n:Nat}(h:n<=sizeLine):Builtin.List.listTooLong n=false:=by
 unfold Builtin.List.listTooLong;exact Ai1 (by omega)
def xp8:V->List V->Hp->VK->Prop:=λx vs H Q=>∃l xs y,x=.ref l/\vs=[y]/\H l=some (.lst xs)/\xs.length<sizeLine/\Q .non (upd H l (.lst (xs++[y])))
def zj1:MtM X "list.append" xp8:=by
 intro A3 s σ H x vs v us Q I rx rv h;obtain⟨l,xs,y,rfl,rfl,hH,hz,q⟩:=h;cases rx;obtain⟨u,rfl,ru⟩:=rv.one;obtain⟨z,its,n,r,hl,e⟩:=I.lstM hH;refine call_meets F.slot_list_append ⟨_,e,rfl⟩ F.entry_list_append (F.args_list_append_2 _ _) (PySem.list_append l its.toArray n u (by rw[Af0];omega)) ⟨e,?_⟩;refine⟨.non,_,I.lset (its':=its++[u]) hH e (by simp) (r.append (.cons ru .nil)) ?_,rfl,q⟩;rw[An0,List.length_singleton];omega
def xp7:V->List V->Hp->VK->Prop:=λx vs H Q=>∃l b xs zs,x=.ref l/\vs=[.ref b]/\H l=some (.lst xs)/\H b=some (.lst zs)/\xs.length+zs.length<=sizeLine/\Q .non (upd H l (.lst (xs++zs)))
def yi7:MtM X "list.extend" xp7:=by
 intro A3 s σ H x vs v us Q I rx rv h;obtain⟨l,b,xs,zs,rfl,rfl,hH,hB,hz,q⟩:=h;cases rx;obtain⟨u,rfl,ru⟩:=rv.one;cases ru;obtain⟨z,its,n,r,hl,e⟩:=I.lstM hH;obtain⟨z2,its2,n2,r2,hl2,e2⟩:=I.lstM hB;have hsz:its.toArray.size+its2.toArray.size<=sizeLine:=by rw[Af0,Af0];omega
 have hlong:¬(!its.toArray.isEmpty&&Builtin.List.listTooLong (its.toArray.size+its2.toArray.size))=true:=by
  rw[xf5 hsz,Bool.and_false];exact Bh0
 refine call_meets F.slot_list_extend ⟨_,e,rfl⟩ F.entry_list_extend (F.args_list_extend_2 _ _)
  (AutoSeq1.list_extend_list_list_0 l its.toArray n b its2.toArray n2 hlong (by rw[Af0];omega) (by omega)) ⟨e,e2,?_⟩
 refine⟨.non,_,I.lset (its':=its++its2) hH e (by simp) (r.append r2) ?_,rfl,q⟩;rw[An0];omega
def we0:V->List V->Hp->VK->Prop:=λx vs H Q=>∃l xs i k y,x=.ref l/\vs=[.int i]/\H l=some (.lst xs)/\-(2 ^ 63)<=i/\i<2 ^ 63/\seqIndex? i xs.length=some k/\xs[k]?=some y/\Q y (upd H l (.lst (xs.eraseIdx k)))
def wa9:MtM X "list.pop" we0:=by
 intro A3 s σ H x vs v us Q I rx rv h;obtain⟨l,xs,i,k,y,rfl,rfl,hH,h1,h2,hk,hy,q⟩:=h;cases rx;obtain⟨u,rfl,ru⟩:=rv.one;obtain⟨t,rfl⟩:=ru;obtain⟨z,its,n,r,hl,e⟩:=I.lstM hH;obtain⟨w,hw,rw'⟩:=r.get hy;refine call_meets F.slot_list_pop ⟨_,e,rfl⟩ F.entry_list_pop (F.args_list_pop_2 _ _)
  (MeetsSeq.list_pop_at l its.toArray n i t k w (fitsIndex_both h1 h2) (by rw[Af0,<-hl];exact hk) (by rw[<-Array.getElem?_toList];exact hw) (by rw[Af0];omega)) ⟨e,?_⟩
 refine⟨y,_,I.lset (its':=its.eraseIdx k) hH e ?_ (r.eraseIdx k) ?_,rw',q⟩
 ·show its.toArray.eraseIdxIfInBounds k=(its.eraseIdx k).toArray
  rw[List.eraseIdxIfInBounds_toArray]
 ·have:=yj1 xs k
  omega
def xz1:V->List V->Hp->VK->Prop:=λx vs H Q=>∃l xs,x=.ref l/\vs=[]/\H l=some (.lst xs)/\Q .non (upd H l (.lst xs.reverse))
def xl6:MtM X "list.reverse" xz1:=by
 intro A3 s σ H x vs v us Q I rx rv h;obtain⟨l,xs,rfl,rfl,hH,q⟩:=h;cases rx;have hus:=rv.zero;subst hus;obtain⟨z,its,n,r,hl,e⟩:=I.lstM hH;refine call_meets F.slot_list_reverse ⟨_,e,rfl⟩ F.entry_list_reverse (F.args_list_reverse_1 _) (AutoSeq1.list_reverse_list_0 l its.toArray n (by rw[Af0];omega)) ⟨e,?_⟩;refine⟨.non,_,I.lset (its':=its.reverse) hH e (by simp) r.reverse ?_,rfl,q⟩;rw[List.length_reverse];omega
def vq8:R2:=λx y H Q=>∃l b xs zs,x=.ref l/\y=.ref b/\H l=some (.lst xs)/\H b=some (.lst zs)/\xs.length+zs.length<=sizeLine/\∀p,H p=none->Q (.ref p) (upd H p (.lst (xs++zs)))
def wq6:OpR X (binaryOp .Add) vq8:=by
 intro A3 s σ H x y v u Q I rx ry h;obtain⟨l,b,xs,zs,rfl,rfl,hH,hB,hz,q⟩:=h;cases rx;cases ry;obtain⟨z,its,n,r,hl,e⟩:=I.lstM hH;obtain⟨z2,its2,n2,r2,hl2,e2⟩:=I.lstM hB;refine PySem.P.add_list e e2 ?_ (by rw[Af0,Af0];omega);have ea:its.toArray++its2.toArray=(its++its2).toArray:=by simp
 rw[ea];exact⟨.ref _,_,I.lnew (t':=s.toks) (r.append r2) (by rw[An0];omega),rfl,q _ I.fresh⟩
def vq7:R2:=λx y H Q=>∃l k xs,x=.ref l/\y=.int k/\H l=some (.lst xs)/\-(2 ^ 63)<=k/\k<2 ^ 63/\xs.length*k.toNat<=sizeLine/\
 ∀p,H p=none->Q (.ref p) (upd H p (.lst (List.replicate k.toNat xs).flatten))
theorem wk2{α:Type}(xs:List α)(k:Nat):(List.replicate k xs).flatten.length=k*xs.length:=by
 induction k with
 | zero=>simp
 | succ k ih=>rw[Bn0,Ch0,An0,ih,Nat.succ_mul,Nat.add_comm]
def wq4:OpR X (binaryOp .Mult) vq7:=by
 intro A3 s σ H x y v u Q I rx ry h;obtain⟨l,k,xs,rfl,rfl,hH,h1,h2,hz,q⟩:=h;cases rx;obtain⟨t,rfl⟩:=ry;obtain⟨z,its,n,r,hl,e⟩:=I.lstM hH;have hlen:its.toArray.size*k.toNat<=sizeLine:=by rw[Af0,<-hl];exact hz
 have hcap:¬its.toArray.size*k.toNat>(2 ^ 63-1) / 8:=by
  have:(sizeLine:Nat)<=(2 ^ 63-1) / 8:=by decide
  omega
 have hfit:¬(!Builtin.List.listFitsIndex k)=true:=by
  rw[fitsIndex_both h1 h2];exact Bh0
 have hlong:¬Builtin.List.listTooLong (its.toArray.size*k.toNat)=true:=by
  rw[xf5 hlen];exact Bh0
 have hnew:List.foldl (λx1 x2=>x1++x2) #[] (List.replicate (if its.toArray.isEmpty=true then 0 else k.toNat) its.toArray)=(List.replicate k.toNat its).flatten.toArray:=by
  have f0:∀m:Nat,List.foldl (λx1 x2=>x1++x2) #[] (List.replicate m its.toArray)=(List.replicate m its).flatten.toArray:=λm=>by
   have:=yx0 its m [];rw[List.nil_append] at this;exact this
  rw[f0];cases its with
  | nil=>simp
  | cons a r'=>rw[if_neg (by simp)]
 refine wpAny_binaryOp_repeat_ref (T:="list") (U:="int") (by decide) ⟨_,e,rfl⟩ (λs'=>typeIs_int s' k t) noFill_list_mul F.fills_int_mul F.slot_int_rmul repeat_list F.slot_int_index.lookup
  (call_meets F.slot_int_rmul (typeIs_int s k t) F.entry_int_rmul (F.args_int_rmul_2 _ _) (int___rmul___int_list k t l its.toArray n)
   ⟨e,rfl,⟨_,e,rfl⟩,call_meets F.slot_list_mul ⟨_,e,rfl⟩ F.entry_list_mul (F.args_list_mul_2 _ _) (AutoListH.list___mul___list_int_3 l its.toArray n k t hfit hcap hlong) ⟨e,?_⟩⟩)
 rw[hnew];exact⟨.ref _,_,I.lnew (t':=s.toks) (r.rep k.toNat) (by rw[wk2,Nat.mul_comm];exact hz),rfl,q _ I.fresh⟩
end
end L2
namespace Att
open PySem PySem.W PySem.Calls PyProof.Rows
theorem yj3:∀(ns:List Int) (vs:List Value),WellAll P h vs (ns.map WData.int)->IntsAre vs ns:=by
 intro ns;induction ns with
 | nil=>
   intro vs w;rw[List.map_nil] at w;cases w;exact .nil
 | cons n ns ih=>
   intro vs w;rw[Ax0] at w;cases w with
   | cons a b=>
     cases a;exact .cons _ _ (ih _ b)
theorem xp1{l:OpenLaw}{n:Nat}(hn:l.most=some n){P:Params}{h:Heap}{args:List WData}{vals:List Value}(hpre:l.row.toRowW.claim.pre args=true)(hwl:WellAll P h vals args) :
 ∃a vs ns,vals=[Value.ref a]/\args=[WData.list (ns.map WData.int)]/\h.get? a=some { cls:=.type "list",data:=.seq vs.toArray }/\IntsAre vs ns/\ns.length<=n:=by
 have hsh:WShape.hasAll [] args [.list .int]=true:=(pre_splitW hpre).1;have hc:l.pre.holds [] { args:=args }=true:=(pre_splitW hpre).2;obtain⟨d,r,rfl,h1,h2⟩:=hasAllW_cons hsh;obtain rfl:=hasAllW_nil h2;obtain⟨xs,rfl,h3⟩:=hasW_list h1;obtain⟨ns,rfl⟩:=items_int h3;have hlen:ns.length<=n:=by
  unfold OpenLaw.pre at hc;have h4:(WTm.not (.lt (.lit (.int (n:Int))) (.len (.arg 0)))).holds [] { args:=[.list (ns.map .int)] }=true:=by
   have h4:=(holds_andW hc).1;rw[hn] at h4;exact h4
  have h5:=condW_of h4 (w_not (w_lt w_lit (w_len_list (w_arg rfl))));rw[Aa0] at h5;refine Nat.le_of_not_lt λq=>?_
  have q':(n:Int)<((ns.length:Nat):Int):=by omega
  first
   | (rw[Aj1 q'] at h5;exact absurd h5 (by decide))
   | (simp at h5;omega)
 cases hwl with
 | cons w1 w2=>
   cases w2;cases w1 with
   | list ho hall=>exact⟨_,_,ns,rfl,rfl,ho,yj3 ns _ hall,hlen⟩
def xq2(l:OpenLaw)(args:List WData):l.row.toRowW.claim.post args (.bool true) args=true:=
 postW_of (r:=l.row.toRowW) (X:=(true == true))
  (show WShape.has [] (.bool true) .bool=true by first | rfl | decide | simp[WShape.has,WShape.arms,WShape.armsAll])
  (show (WTm.eq .res (.lit (.bool true))).value [] { args:=args,res:=some (.bool true),after:=args }=some (.bool (true == true)) from w_eq_bool (w_res rfl) w_lit) rfl
def attach_call{l:OpenLaw}{n:Nat}{q:Program}{loose:List Str}{XP:(Str->Option Value)->Heap->Prop}{YP:World->Heap->Prop}{d:DefRec}(hn:l.most=some n)(hdf:d.params.defaults=[])(call:∀(w:World) (s₀ s₁:Shared) (mg mb:Str->Option Value) (fa:Addr) (o:Obj) (pm cd doc:Value) (a:Addr) (vs:List Value) (ns:List Int),
  Ground q loose [] XP w s₀ mg mb s₁.heap->YP w s₁.heap->
  s₁.heap.get? fa=some o->o.data=.func (docDef d.name d.params d.body d.scope pm cd doc)->s₁.heap.CodeRec cd d.name->mg d.name=some (.ref fa)->
  s₁.heap.get? a=some { cls:=.type "list",data:=.seq vs.toArray }->IntsAre vs ns->ns.length<=n->s₁.gens=#[]->
  codeAny (model l.prog w) callerA (.call (.ref fa) ⟨[.ref a],[]⟩) (λr s'=>r=.ok (.ret (.bool true))/\OldK s₁.heap s'.heap/\s'.os=s₁.os/\AllBare s'.gens) s₁) :
 WalkO q loose XP YP l.row.toRowW d [] (λf vs=>PySem.call f vs):=by
 intro w s₀ s₁ mg mb G Y fa o pm cd doc dV kV ho hd hcd hD hmg hg args vals as hpre hlay hrd hwl hlo;obtain rfl:dV=.none:=Dflts.none hD hdf;obtain rfl:kV=.none:=Dflts.noKw hD;obtain⟨a,vs,ns,rfl,rfl,hobj,hints,hlen⟩:=xp1 hn hpre hwl;refine enter_call (codeAny_mono (call w s₀ s₁ mg mb fa o pm cd doc a vs ns G Y ho (fd_plain hd) hcd hmg hobj hints hlen hg) λr s' hq=>?_);obtain⟨rfl,h2,h3,h4⟩:=hq;exact⟨.inl ⟨.bool true,.bool true,[],rfl,λ_=>rfl,.bool true,xq2 l _,λ_=>⟨List.Pairwise.nil,λ_ hm=>(nomatch hm)⟩⟩,h2,h3,h4⟩
section
variable{prog:Program}{w:World}{A:Around}{E:Value->Shared->Prop}{s:Shared}{K:Frag}
end
end Att
namespace L2
theorem yt2:∀{vs:List Value} {ns:List Int},IntsAre vs ns->wv6 (ns.map V.int) vs
 | _,_,.nil=>.nil
 | _,_,.cons n t h=>.cons ⟨t,rfl⟩ (yt2 h)
def vz0(H:Hp):Prop:=∀b,H b=none\/∃o xs,H b=some (.frz o (.lst xs))
open H in
theorem wb1{P:Program}{w:World}{K:PySem.W.Frag}{mg mb:Str->Option Value}{CX:CXT}{k:Nat}{fa a:Addr}{fd:FuncData}{x:Str}{sp:Sp}{s₁:Shared}{vs:List Value}{ns:List Int}(KX:K.In s₁.heap)(hns:s₁.heap.Ns mainGlobals mg)(hb:s₁.heap.Ns builtinsNs mb)(hbb:∀x:Str,x≠"__name__"->mb x=bootBuiltins x)(hlim:s₁.heap.NoLimit)(hg:s₁.gens=#[])(ha:s₁.heap.get? a=some { cls:=.type "list",data:=.seq vs.toArray })(hi:IntsAre vs ns)(hl:ns.length<=sizeLine)(hr:wv8 k callerA)(F:∀base:Heap,K.In base->base.Ns mainGlobals mg->wy0 P w K mg base CX k fa fd [x] sp)(hbind:∀(s:Shared) (u:Value),BindsTo s fd ⟨[u],[]⟩ [(x,u)])(hsp:∀H:Hp,vz0 H->SqL K H a (ns.map V.int)->sp [.ref a] H (λv _=>v=.bl true) λ_ _ _=>False)(hCX:∀H e s',CX [] H s₁ (λ_ _ _=>False) e s'->False) :
 codeAny (model P w) callerA (.call (.ref fa) ⟨[.ref a],[]⟩) (λr s'=>r=.ok (.ret (.bool true))/\OldK s₁.heap s'.heap/\s'.os=s₁.os/\AllBare s'.gens) s₁:=by
 have rv:=yt2 hi;have lenV:=hi.length
 -- from an abstract heap in which nothing but the script may be tracked
 have core:∀H:Hp,vz0 H->SqL K H a (ns.map V.int)->HOk P w H s₁.heap->(∀b,H b≠none->b=a)->(H a≠none->K.lookup a=none)->
  codeAny (model P w) callerA (.call (.ref fa) ⟨[.ref a],[]⟩) (λr s'=>r=.ok (.ret (.bool true))/\OldK s₁.heap s'.heap/\s'.os=s₁.os/\AllBare s'.gens) s₁:=by
  intro H hO hS hok hA hK;have base_of:∀{b:Addr} {o:Obj},s₁.heap.get? b=some o->H b=none->(vj0 s₁.heap H).get? b=some o:=λe n=>wc0 e n
  have noA:∀{b:Addr} {o:Obj} {es:Array DictEntry} {ep:Nat},s₁.heap.get? b=some o->o.data=.dict es ep->H b=none:=λ{b o es ep} e d=>by
   cases q:H b with
   | none=>rfl
   | some u=>
     have e':b=a:=hA b (by rw[q];simp);subst e';rw[ha] at e;cases e;have d':Data.seq vs.toArray _=Data.dict es ep:=d;cases d'
  have nsK:∀{b:Addr} {m:Str->Option Value},s₁.heap.Ns b m->(vj0 s₁.heap H).Ns b m:=λ{b m} ⟨o,es,ep,e,d,r⟩=>⟨o,es,ep,base_of e (noA e d),d,r⟩
  have hKb:K.In (vj0 s₁.heap H):=λb o e=>base_of (KX b o e) (by
   cases q:H b with
   | none=>rfl
   | some u=>
     have e':b=a:=hA b (by rw[q];simp);subst e';rw[hK (by rw[q];simp)] at e;cases e)
  have hM:Mod K mg (vj0 s₁.heap H):=⟨hKb,nsK hns,⟨mb,nsK hb,hbb⟩,let ⟨mc,h1,h2⟩:=hlim;⟨mc,nsK h1,h2⟩⟩;have e0:vi3 P w K mg (vj0 s₁.heap H) callerA [] s₁ H:=⟨rfl,hM,λb o e=>wj6 e,Nat.le_of_eq (xu0 _ _),trivial,λb hb=>absurd (show b∈([]:List Addr) from hb) (by simp),hok,.of_eq hg⟩;refine codeAny_mono ((F _ hKb (nsK hns)).run callerA [] s₁ H ⟨[.ref a],[]⟩ [.ref a] [.ref a] _ _ hr e0 (hbind s₁ (.ref a)) (.cons rfl .nil) (hsp H hO hS)) λr s' h=>?_
  cases r with
  | error e=>exact(hCX H e s' h).elim
  | ok fl=>
    cases fl with
    | next=>exact False.elim h
    | brk=>exact False.elim h
    | cont=>exact False.elim h
    | ret u=>
      obtain⟨v,H',os,bare,un,hok',r',q⟩:=h;have q':v=.bl true:=q;subst q';obtain rfl:u=Value.bool true:=r';refine⟨rfl,OldK.of_keep λb o e=>?_,os,bare⟩;cases q:H b with
      | none=>exact un.keep b o e q (by intro z;exact absurd (show b∈([]:List Addr) from z) (by simp)) (by simp)
      | some u=>
        rcases hO b with z | ⟨ob,xs,z⟩
        ·rw[q] at z;cases z
        ·have z2:=un.frzs b ob _ z
         obtain⟨e1,_⟩:=hok b _ z;obtain⟨e2,_⟩:=hok' b _ z2;rw[e] at e1;cases e1;exact e2
 cases hk:K.lookup a with
 | some o=>
   -- the script is one of the module's own objects
   have e:=KX a o hk;rw[ha] at e;cases e;refine core (λ_=>none) (λ_=>.inl rfl) (.inr ⟨_,vs.toArray,_,hk,rfl,rfl,rfl,by rw[Af0,lenV];exact hl,by simpa using rv⟩) (λb u z=>by have z':(none:Option HO)=some u:=z;cases z') (λb z=>absurd rfl z) λz=>absurd rfl z
 | none=>
   refine core (λb=>if b=a then some (.frz { cls:=.type "list",data:=.seq vs.toArray } (.lst (ns.map V.int))) else none) (λb=>?_) (.inl (.inr ⟨{ cls:=.type "list",data:=.seq vs.toArray },if_pos rfl⟩)) (λb u z=>?_) (λb z=>?_) λ_=>hk
   ·by_cases hb:b=a
    ·exact .inr ⟨_,_,if_pos hb⟩
    ·exact .inl (if_neg hb)
   ·by_cases hb:b=a
    ·have z':=(if_pos hb).symm.trans z
     cases z';subst hb;exact⟨ha,by rw[Aa0];exact hl,vs,_,rv,ha⟩
    ·have z':=(if_neg hb).symm.trans z
     cases z'
   ·by_cases hb:b=a
    ·exact hb
    ·exact absurd (if_neg hb) z
def walk_of{l:PySem.W.OpenLaw}{n k:Nat}{q:Program}{loose:List Str}{XP:(Str->Option Value)->Heap->Prop}{YP:World->Heap->Prop}{d:DefRec}{K:Params->PySem.W.Frag}{CX:World->CXT}{sp:World->Sp}{x:Str}(hn:l.most=some n)(hn2:n<=sizeLine)(hdf:d.params.defaults=[])(hr:wv8 k callerA)(hY:∀(w:World) (h:Heap),YP w h->(K w.params).In h)(F:∀(w:World) (mg:Str->Option Value) (fa:Addr) (h:Heap),(K w.params).In h->h.Ns mainGlobals mg->mg d.name=some (.ref fa)->
  ∃fd:FuncData,(∀(s:Shared) (u:Value),BindsTo s fd ⟨[u],[]⟩ [(x,u)])/\
   ∀base:Heap,(K w.params).In base->base.Ns mainGlobals mg->wy0 l.prog w (K w.params) mg base (CX w) k fa fd [x] (sp w))(hsp:∀(w:World) (H:Hp) (a:Addr) (ns:List Int),ns.length<=n->vz0 H->SqL (K w.params) H a (ns.map V.int)->sp w [.ref a] H (λv _=>v=.bl true) λ_ _ _=>False)(hCX:∀(w:World) (H:Hp) (s:Shared) (e:Value) (s':Shared),CX w [] H s (λ_ _ _=>False) e s'->False) :
 PySem.W.WalkO q loose XP YP l.row.toRowW d [] (λf vs=>PySem.call f vs):=by
 refine Att.attach_call hn hdf λw s₀ s₁ mg mb fa o pm cd doc a vs ns G Y ho hd hcd hmg hobj hints hlen hg=>?_
 have KX:=hY w _ Y;obtain⟨fd,hb,hF⟩:=F w mg fa _ KX G.T.g hmg;exact wb1 KX G.T.g G.T.b G.T.builtins G.T.nolimit hg hobj hints (Av0 hlen hn2) hr hF hb (λH hO hS=>hsp w H a ns hlen hO hS) λH e s'=>hCX w H s₁ e s'
def zv4(s:Stmt):Arguments:=match s with
 | .FunctionDef _ a _ _ _ _ _ _ _ _=>a
 | _=>{ posonlyargs:=[],args:=[],vararg:=none,kwonlyargs:=[],kw_defaults:=[],kwarg:=none,defaults:=[] }
def zb9(s:Stmt):List Stmt:=match s with
 | .FunctionDef _ _ b _ _ _ _ _ _ _=>b
 | _=>[]
def za2(s:Stmt):Scope:=match s with
 | .FunctionDef _ _ _ _ _ _ sc _ _ _=>sc
 | _=>{ kind:=.function,names:=[],isGenerator:=false,isCoroutine:=false }
abbrev CX0:CXT:=λ_ _ _ _ _ _=>False
abbrev E0:XK:=λ_ _ _=>False
def vg6:yy8 CX0 X E0:=λ_ _ _ _ _ _ _ h=>h.elim
structure Fun(K:PySem.W.Frag)(x qual:Str)(st:Stmt)(f:Addr)(fd:FuncData):Prop where
 ex:∃(oc:Value) (od:Option Addr) (kV doc pm:Value) (an:Option Addr) (cdv ct:Value) (osl:Array (Option Value)),
  fd=fnOf x qual (zv4 st) (zb9 st) (za2 st) .none kV doc pm an cdv ct/\K.lookup f=some ⟨oc,od,.func fd,osl⟩/\codeIn K cdv qual=true
 kp:keepIn K (.ref f)=true
section
variable{P:Program}{w:World}{K:PySem.W.Frag}{mg:Str->Option Value}{base:Heap}
def Fun.ok{x qual:Str}{st:Stmt}{f:Addr}{fd:FuncData}{N ps:List Str}{k:Nat}{sp:Sp}(F:Fun K x qual st f fd)(S:zc0 N ps (za2 st))(len:∀vs H Q E,sp vs H Q E->vs.length=ps.length)(hbody:∀(cdv:Value) (A:Around) (outer:List Env) (s:Shared) (H:Hp) (vs:List V) (Q:VK) (E:XK),wv8 k (A.deeper (envOfC qual (za2 st) s.heap.objs.size f cdv))->sp vs H Q E->
  ∃t,PSs (wx0 CX0 P w K mg base N qual (za2 st) f cdv A outer s H E).nox (zb9 st) t/\t { nx:=λ_ H'=>Q .non H',rt:=Q } (wx1 N vs) H):wy0 P w K mg base CX0 (k+1) f fd ps sp:=by
 obtain⟨oc,od,kV,doc,pm,an,cdv,ct,osl,rfl,lk,hcd⟩:=F.ex;refine vo9 lk hcd S len λA outer s H vs Q E hr hsp=>?_
 obtain⟨t,h,q⟩:=hbody cdv A outer s H vs Q E hr hsp;exact⟨t,h.nox,q⟩
def Fun.binds{x qual:Str}{st:Stmt}{f:Addr}{fd:FuncData}{ps:List Str}(F:Fun K x qual st f fd)(h:∀(kV doc pm:Value) (an:Option Addr) (cdv ct:Value) (us:List Value),us.length=ps.length->bindArgs (fnOf x qual (zv4 st) (zb9 st) (za2 st) .none kV doc pm an cdv ct) ⟨us,[]⟩=pure (ps.zip us)):wz7 K fd ps []:=by
 obtain⟨oc,od,kV,doc,pm,an,cdv,ct,osl,rfl,lk,hcd⟩:=F.ex;exact .all (h kV doc pm an cdv ct)
def wf4{x qual:Str}{st:Stmt}{f:Addr}{oc:Value}{od an:Option Addr}{osl:Array (Option Value)}{kV doc pm cdv ct:Value}(l:K.lookup f=some ⟨oc,od,.func (fnOf x qual (zv4 st) (zb9 st) (za2 st) .none kV doc pm an cdv ct),osl⟩)(c:codeIn K cdv qual=true)(k:keepIn K (.ref f)=true):Fun K x qual st f (fnOf x qual (zv4 st) (zb9 st) (za2 st) .none kV doc pm an cdv ct):=⟨⟨oc,od,kV,doc,pm,an,cdv,ct,osl,rfl,l,c⟩,k⟩
end
def vc8{k:Nat}(hr:wv8 k A):A.units+1<cLine:=Nat.lt_of_le_of_lt (Nat.add_le_add_left (by decide:1<=64) _) hr.units
def yh2{n:Nat}(h:n<=1000):n<sizeLine:=Nat.lt_of_le_of_lt h (by decide)
section
variable{X:Cx}
def pv(i:Nat){x:Str}(hN:X.N[i]?=some x:=by rfl)(hv:Vis X.env.scope x:=by first | exact Or.inl rfl | exact Or.inr (Or.inl rfl) | exact Or.inr (Or.inr rfl))(hd:(x == ("__debug__" : Str))=false:=by decide)(hcd:(x == ("__classdict__" : Str))=false:=by decide):PE X (.Name x pos) (vb2 i):=zu1 hN hv hd hcd
end
def vo7{A B:Prop}(h:B):if false=true then A else B:=by
 rw[if_neg Bh0];exact h
def vn1{A B:Prop}(h:A):if true=true then A else B:=by
 rw[if_pos rfl];exact h
def wx4(H H':Hp):Prop:=∀b o,H b=some o->H' b=some o
def wx4.refl(H:Hp):wx4 H H:=λ_ _ h=>h
def wx4.seq{K:PySem.W.Frag}{H H':Hp}{a:Addr}{xs:List V}(e:wx4 H H')(h:SqL K H a xs):SqL K H' a xs:=by
 rcases h with (h | ⟨o,h⟩) | h
 ·exact .inl (.inl (e _ _ h))
 ·exact .inl (.inr ⟨o,e _ _ h⟩)
 ·exact .inr h
section
variable{κ:Type}[DecidableEq κ]
def va8(kvs:List (κ×V))(k:κ):Option V:=(kvs.find? λkv=>decide (kv.1=k)).map (·.2)
def wy4(kvs:List (κ×V))(k:κ)(v:V):List (κ×V):=
 if (kvs.any λkv=>decide (kv.1=k))=true then kvs.map (λkv=>if kv.1=k then (kv.1,v) else kv) else kvs++[(k,v)]
def vp3(kvs:List (κ×V))(k:κ):List (κ×V):=kvs.filter λkv=>decide (kv.1≠k)
def zr4{p:κ×V}{r:List (κ×V)}{k:κ}(e:p.1=k):va8 (p::r) k=some p.2:=by simp[va8,Cl0,e]
def zr5{p:κ×V}{r:List (κ×V)}{k:κ}(e:¬p.1=k):va8 (p::r) k=va8 r k:=by simp[va8,Cl0,e]
theorem zy9(k:κ):∀kvs:List (κ×V),(kvs.any λkv=>decide (kv.1=k))=(va8 kvs k).isSome
 | []=>rfl
 | p::r=>by
   rw[List.any_cons];by_cases e:p.1=k
   ·simp only[zr4 e,Aj1 e,Bool.true_or,Option.isSome_some]
   ·rw[zr5 e,Ai1 e,Bool.false_or];exact zy9 k r
def zn9(kvs:List (κ×V))(k:κ)(v:V):(wy4 kvs k v).length<=kvs.length+1:=by
 unfold wy4;split
 ·rw[Aa0];omega
 ·rw[An0,Au0,List.length_nil];omega
theorem vf7.isSome_eq(r:vf7 o u):o.isSome=u.isSome:=by
 cases o with
 | none=>cases u with
   | none=>rfl
   | some _=>exact(show False from r).elim
 | some _=>cases u with
   | none=>exact(show False from r).elim
   | some _=>rfl
theorem vf7.getD(r:vf7 o u)(rd:wv5 d d'):wv5 (o.getD d) (u.getD d'):=by
 cases o with
 | none=>cases u with
   | none=>exact rd
   | some _=>exact(show False from r).elim
 | some _=>cases u with
   | none=>exact(show False from r).elim
   | some _=>exact r
theorem KV.val(r:KV kvs vs)(k:κ):vf7 (va8 kvs k) (valueAt vs k):=by
 unfold KV at r;induction r with
 | nil=>exact True.intro
 | @cons p q ps qs h t ih=>
   obtain⟨h1,h2⟩:=h;by_cases e:p.1=k
   ·have e':q.1=k:=h1.symm.trans e
    have b:valueAt (q::qs) k=some q.2:=by simp[valueAt,Cl0,e']
    rw[zr4 e,b];exact h2
   ·have e':¬q.1=k:=λz=>e (h1.trans z)
    have b:valueAt (q::qs) k=valueAt qs k:=by simp[valueAt,Cl0,e']
    rw[zr5 e,b];exact ih
theorem KV.any{kvs:List (κ×V)}{vs:List (κ×Value)}(r:KV kvs vs)(k:κ):(kvs.any λkv=>decide (kv.1=k))=vs.any λkv=>decide (kv.1=k):=by
 unfold KV at r;induction r with
 | nil=>rfl
 | cons h t ih=>rw[List.any_cons,List.any_cons,ih,h.1]
theorem KV.repl(r:KV kvs vs)(k:κ)(ry:wv5 y u) :
 KV (kvs.map λkv=>if kv.1=k then (kv.1,y) else kv) (vs.map λkv=>if kv.1=k then (kv.1,u) else kv):=by
 unfold KV at r ⊢;induction r with
 | nil=>exact .nil
 | @cons p q ps qs h t ih=>
   rw[Ax0,Ax0];refine .cons ?_ ih;obtain⟨h1,h2⟩:=h;by_cases e:p.1=k
   ·rw[if_pos e,if_pos (h1.symm.trans e)];exact⟨h1,ry⟩
   ·rw[if_neg e,if_neg (λz=>e (h1.trans z))];exact⟨h1,h2⟩
def KV.put(r:KV kvs vs)(k:κ)(ry:wv5 y u):KV (wy4 kvs k y) (stored vs k u):=by
 unfold wy4 stored;rw[r.any k];by_cases e:(vs.any λkv=>decide (kv.1=k))=true
 ·rw[if_pos e,if_pos e];exact r.repl k ry
 ·rw[if_neg e,if_neg e];exact Paired.snoc r ⟨rfl,ry⟩
theorem KV.drop(r:KV kvs vs)(k:κ):KV (vp3 kvs k) (without vs k):=by
 unfold KV at r ⊢;unfold vp3 without;induction r with
 | nil=>exact .nil
 | @cons p q ps qs h t ih=>
   obtain⟨h1,h2⟩:=h;rw[List.filter_cons,List.filter_cons];by_cases e:p.1=k
   ·have a:¬decide (p.1≠k)=true:=by simp[e]
    have b:¬decide (q.1≠k)=true:=by simp[h1.symm.trans e]
    rw[if_neg a,if_neg b];exact ih
   ·have e':¬q.1=k:=λz=>e (h1.trans z)
    have a:decide (p.1≠k)=true:=by simp[e]
    have b:decide (q.1≠k)=true:=by simp[e']
    rw[if_pos a,if_pos b];exact .cons ⟨h1,h2⟩ ih
def KV.length{kvs:List (κ×V)}{vs:List (κ×Value)}(r:KV kvs vs):kvs.length=vs.length:=Paired.length r
end
theorem ve3(r:wv5 (kV k) u):(zf8 P w).is k u=true:=by
 cases k with
 | inl i=>obtain⟨t,e⟩:=(show ∃t,u=Value.int i t from r);subst e;exact xb4 P w i t
 | inr x=>obtain⟨t,e⟩:=(show ∃t,u=Value.str x t from r);subst e;exact xb3 P w x t
theorem yw2:∀{ks:List Key} {us:List Value},wv6 (ks.map kV) us->ItemsAre (zf8 P w) ks us
 | [],_,r=>by rw[List.map_nil] at r;cases r;exact .nil
 | k::ks,_,r=>by
   rw[Ax0] at r;cases r with
   | cons h t=>exact .cons (ve3 h) (yw2 t)
abbrev KT(H:Hp):List (List Key×V)->List (List Key×Addr×Value)->Prop:=Paired λp q=>p.1=q.1/\H q.2.1=some (.tup (p.1.map kV))/\wv5 p.2 q.2.2
theorem KT.val(r:KT H kvs xs)(k:List Key):vf7 (va8 kvs k) ((atKey xs k).map (·.2)):=by
 induction r with
 | nil=>exact True.intro
 | @cons p q ps qs h t ih=>
   obtain⟨h1,_,h2⟩:=h;by_cases e:p.1=k
   ·have e':q.1=k:=h1.symm.trans e
    have b:atKey (q::qs) k=some q.2:=by simp[atKey,Cl0,e']
    rw[zr4 e,b];exact h2
   ·have e':¬q.1=k:=λz=>e (h1.trans z)
    have b:atKey (q::qs) k=atKey qs k:=by simp[atKey,Cl0,e']
    rw[zr5 e,b];exact ih
theorem KT.repl(r:KT H kvs xs)(k:List Key)(ry:wv5 y u) :
 KT H (kvs.map λkv=>if kv.1=k then (kv.1,y) else kv) (xs.map (putAt k u)):=by
 induction r with
 | nil=>exact .nil
 | @cons p q ps qs h t ih=>
   rw[Ax0,Ax0];refine .cons ?_ ih;obtain⟨h1,h2,h3⟩:=h;unfold putAt;by_cases e:p.1=k
   ·rw[if_pos e,if_pos (h1.symm.trans e)];exact⟨h1,h2,ry⟩
   ·rw[if_neg e,if_neg (λz=>e (h1.trans z))];exact⟨h1,h2,h3⟩
def KT.put(r:KT H kvs xs)(k:List Key)(hb:H b=some (.tup (k.map kV)))(ry:wv5 y u) :
 KT H (wy4 kvs k y) (storedH xs k b u):=by
 have e:(kvs.any λkv=>decide (kv.1=k))=(atKey xs k).isSome:=by
  rw[zy9,(r.val k).isSome_eq,Option.isSome_map]
 unfold wy4 storedH;rw[e];by_cases q:(atKey xs k).isSome=true
 ·rw[if_pos q,if_pos q];exact r.repl k ry
 ·rw[if_neg q,if_neg q];exact Paired.snoc r ⟨rfl,hb,ry⟩
def KT.keeps(r:KT H kvs xs)(ht:∀b ys,H b=some (.tup ys)->H' b=some (.tup ys)):KT H' kvs xs:=
 Paired.mapP r λ_ _ z=>⟨z.1,ht _ _ z.2.1,z.2.2⟩
section
variable{P:Program}{w:World}{H:Hp}{h:Heap}{a:Addr}
def vo1(ok:HOk P w H h)(e:Rd H a u):ww4 P w H h a u:=e.ok ok
def vf4(ok:HOk P w H h)(e:Rd H a (.dK kvs)):kvs.length<=sizeLine/\(a == sysModules)=false/\∃vs,KV kvs vs/\h.DictOf (zf8 P w) a vs:=
 show ww4 P w H h a (.dK kvs) from vo1 ok e
def vp4(ok:HOk P w H h)(e:H a=some (.dK kvs)):kvs.length<=sizeLine/\(a == sysModules)=false/\∃vs,KV kvs vs/\h.DictOf (zf8 P w) a vs:=vf4 ok (.inl e)
def yn7(ok:HOk P w H h)(e:H a=some (.tup (ks.map kV))):(tupleKind (zf8 P w)).is h ks a:=by
 obtain⟨_,its,r,⟨o,h1,h2,n,h3⟩,_⟩:=(show ww4 P w H h a (.tup (ks.map kV)) from ok a _ e);exact⟨o,its.toArray,n,h1,h2,h3,by simpa using yw2 r⟩
def vf3(ok:HOk P w H h)(e:Rd H a (.dT kvs)):kvs.length<=sizeLine/\(a == sysModules)=false/\
 ∃xs,KT H kvs xs/\h.DictOfH (tupleKind (zf8 P w)) a xs:=by
 obtain⟨z,y,xs,r,o,es,ep,h1,h2,h3,h4,h5⟩:=(show ww4 P w H h a (.dT kvs) from vo1 ok e);refine⟨z,y,xs,r,o,es,ep,h1,h2,h3,h4,λx hx=>?_,h5⟩;have all:∀{l:List (List Key×V)} {m:List (List Key×Addr×Value)},KT H l m->∀x∈m,(tupleKind (zf8 P w)).is h x.1 x.2.1:=by
  intro l m q;induction q with
  | nil=>intro x hx;exact nomatch hx
  | @cons p q ps qs hq t ih=>
    intro x hx;rcases Aj0.mp hx with e | hx
    ·subst e
     exact yn7 ok (by rw[<-hq.1];exact hq.2.1)
    ·exact ih x hx
 exact all r x hx
def vp2(ok:HOk P w H h)(e:H a=some (.dT kvs)):kvs.length<=sizeLine/\(a == sysModules)=false/\
 ∃xs,KT H kvs xs/\h.DictOfH (tupleKind (zf8 P w)) a xs:=vf3 ok (.inl e)
end
def vb1(H:Hp)(a:Addr)(y:V)(r:Option V):Prop:=
 (∃kvs k,Rd H a (.dK kvs)/\y=kV k/\r=va8 kvs k)\/∃kvs k b,Rd H a (.dT kvs)/\y=.ref b/\H b=some (.tup (k.map kV))/\r=va8 kvs k
def vj5(H:Hp)(a:Addr)(y v:V)(H':Hp):Prop:=
 (∃kvs k,H a=some (.dK kvs)/\y=kV k/\kvs.length<sizeLine/\H'=upd H a (.dK (wy4 kvs k v)))\/
 ∃kvs k b,H a=some (.dT kvs)/\y=.ref b/\H b=some (.tup (k.map kV))/\kvs.length<sizeLine/\H'=upd H a (.dT (wy4 kvs k v))
def vb1.k{H:Hp}{a:Addr}{kvs:List (Key×V)}{k:Key}(e:H a=some (.dK kvs)):vb1 H a (kV k) (va8 kvs k):=.inl ⟨kvs,k,.inl e,rfl,rfl⟩
def vb1.t{H:Hp}{a b:Addr}{kvs:List (List Key×V)}{k:List Key}(e:H a=some (.dT kvs))(eb:H b=some (.tup (k.map kV))):vb1 H a (.ref b) (va8 kvs k):=.inr ⟨kvs,k,b,.inl e,rfl,eb,rfl⟩
def vj5.k{H:Hp}{a:Addr}{kvs:List (Key×V)}{k:Key}{v:V}(e:H a=some (.dK kvs))(hl:kvs.length<sizeLine):vj5 H a (kV k) v (upd H a (.dK (wy4 kvs k v))):=.inl ⟨kvs,k,e,rfl,hl,rfl⟩
def vj5.t{H:Hp}{a b:Addr}{kvs:List (List Key×V)}{k:List Key}{v:V}(e:H a=some (.dT kvs))(eb:H b=some (.tup (k.map kV)))(hl:kvs.length<sizeLine) :
 vj5 H a (.ref b) v (upd H a (.dT (wy4 kvs k v))):=.inr ⟨kvs,k,b,e,rfl,eb,hl,rfl⟩
section
variable{X:Cx}{A3:List (Addr×Obj)}{σ:St}{H:Hp}{s:Shared}{a:Addr}{y v:V}{u r:Value}{o:Option V}{A:Around}{E:Value->Shared->Prop}
def Inv.big(I:Inv X A3 σ H s):sysModules<s.heap.objs.size:=by
 have h:mainGlobals<s.heap.objs.size:=(I.mod.glob.keeps I.bk).lt;exact Nat.lt_trans (by decide) h
def xv5(hu:A.units+1<cLine)(I:Inv X A3 σ H s)(g:vb1 H a y (some v))(ry:wv5 y u)(h:∀w' s',Inv X A3 σ H s'->wv5 v w'->Q w' s') :
 wpAny (model X.prog X.w) A (getItem (.ref a) u) Q E s:=by
 rcases g with⟨kvs,k,e,ey,l⟩ | ⟨kvs,k,b,e,ey,eb,l⟩
 ·subst ey
  obtain⟨z,hd,vs,rel,dd⟩:=vf4 I.hok e;obtain⟨w',hw,rw'⟩:=vf7.some_of (v:=v) (o:=valueAt vs k) (by rw[l];exact rel.val k);exact wpAny_getItem_of (ve3 ry) dd.mapOf hw (h w' _ (I.tok _) rw')
 ·subst ey
  cases (show u=Value.ref b from ry);obtain⟨z,hd,xs,rel,dd⟩:=vf3 I.hok e;obtain⟨w',hw,rw'⟩:=vf7.some_of (v:=v) (o:=(atKey xs k).map (·.2)) (by rw[l];exact rel.val k);obtain⟨p,hp,hp2⟩:=Option.map_eq_some_iff.mp hw;refine wpAny_getItem_heap (tupleKind_room_in1 hu) (yn7 I.hok eb) dd hp ?_;rw[hp2];exact h w' _ (I.tok _) rw'
def uf2(hu:A.units+1<cLine)(I:Inv X A3 σ H s)(g:vb1 H a y o)(ry:wv5 y u)(h:∀s',Inv X A3 σ H s'->Q (.bool o.isSome) s') :
 wpAny (model X.prog X.w) A (compareOp .In u (.ref a)) Q E s:=by
 rcases g with⟨kvs,k,e,ey,l⟩ | ⟨kvs,k,b,e,ey,eb,l⟩
 ·subst ey
  obtain⟨z,hd,vs,rel,dd⟩:=vf4 I.hok e;refine wpAny_in_of (ve3 ry) hd dd.mapOf ?_;rw[<-(rel.val k).isSome_eq,<-l];exact h _ (I.tok _)
 ·subst ey
  cases (show u=Value.ref b from ry);obtain⟨z,hd,xs,rel,dd⟩:=vf3 I.hok e;refine wpAny_in_heap (tupleKind_room_in1 hu) (yn7 I.hok eb) hd dd ?_;have q:=(rel.val k).isSome_eq;rw[Option.isSome_map] at q;rw[<-q,<-l];exact h _ (I.tok _)
def yr8{t':Nat}(I:Inv X A3 σ H s)(mu:Mut (H a))(hs:Heap.SameBut a s.heap h')(he:∃q,h'.get? a=some q)(new:ww4 X.prog X.w (upd H a ob) h' a ob) :
 Inv X A3 σ (upd H a ob) { s with heap:=h',toks:=t' }:=
 I.write (x:=a) (e:=a) mu (.inl rfl) (λb q hb z=>(hs.2 b hb).trans z) he new
def wf5(z:kvs.length<=sizeLine)(hd:(a == sysModules)=false)(rel:KV kvs vs)(dd:h'.DictOf (zf8 P w) a vs) :
 ww4 P w H' h' a (.dK kvs):=⟨z,hd,vs,rel,dd⟩
def xv4(hu:A.units+1<cLine)(I:Inv X A3 σ H s)(g:vj5 H a y v H')(ry:wv5 y u)(rv:wv5 v r)(h:∀s',Inv X A3 σ H' s'->Q () s') :
 wpAny (model X.prog X.w) A (setItem (.ref a) u r) Q E s:=by
 rcases g with⟨kvs,k,e,ey,l,eH⟩ | ⟨kvs,k,b,e,ey,eb,l,eH⟩
 ·subst ey eH
  obtain⟨z,hd,vs,rel,dd⟩:=vp4 I.hok e;have hz:vs.length<=sizeLine:=by rw[<-rel.length];exact z
  have hl:(wy4 kvs k v).length<=sizeLine:=by have:=zn9 kvs k v;omega
  refine wpAny_setItem_pairs (hsz:=hz) (ve3 ry) dd λh' dd' hs=>h _ ?_
  have he:∃q,h'.get? a=some q:=let ⟨q,_,_,hq,_⟩:=dd';⟨q,hq⟩;exact yr8 I (by rw[e];exact True.intro) hs he (wf5 hl hd (rel.put k rv) dd')
 ·subst ey eH
  cases (show u=Value.ref b from ry);obtain⟨z,hd,xs,rel,dd⟩:=vp2 I.hok e;have hz:xs.length<=sizeLine:=by rw[<-Paired.length rel];exact z
  have hl:(wy4 kvs k v).length<=sizeLine:=by have:=zn9 kvs k v;omega
  refine wpAny_setItem_heap (hsz:=hz) (tupleKind_room_in1 hu) (yn7 I.hok eb) dd λh' dd' hs=>h _ ?_
  obtain⟨q,es,ep,hq,h2,h3,h4,_,h5⟩:=dd';refine yr8 I (by rw[e];exact True.intro) hs ⟨q,hq⟩ ⟨hl,hd,_,(rel.put k eb rv).keeps λc ys ec=>?_,q,es,ep,hq,h2,h3,h4,h5⟩;rw[za9 (vh1 ec e (λz=>nomatch z))];exact ec
end
section
variable{X:Cx}{A3:List (Addr×Obj)}{σ:St}{H:Hp}{s:Shared}{a:Addr}{kvs:List (Key×V)}{k:Key}{u:Value}{A:Around}{E:Value->Shared->Prop}
end
def vz2(i:Expr):Prop:=∀ov iv,subscripted i false ov iv=operate [ov,iv] (getItem ov iv)
def wh9{T id:String}(hl:typeLookup (.type T) "__getitem__" = pure (some (.builtin id)))(hs:vz2 slice)(h:wpAny (model prog w) A (eval value env) (λo s₁=>wpAny (model prog w) A (eval slice env) (λi s₂=>s₂.TypeIs o T/\wpAny (model prog w) A (getItem o i) Q E s₂) E s₁) E s) :
 wpAny (model prog w) A (eval (.Subscript value slice pos) env) Q E s:=by
 refine Subscript_ (Ae1 h (λo s₁ h₁=>Ae1 h₁ (λi s₂ h₂=>?_) λ_ _ x=>x) λ_ _ x=>x);obtain⟨hT,h₂⟩:=h₂;unfold subscriptTail;refine Aa1 ?_;rw[getitemInPython_of_ne hT.not_modules];refine Aa1 (wpAny_specialOf hT hl ?_);have fin:wpAny (model prog w) A (subscripted slice false o i) (λr s₃=>wpAny (model prog w) A (letTemporaryGo value o r >>= λ_=>pure r) Q E s₃) E s₂:=by
  rw[hs o i];exact wpAny_operating (Ae1 h₂ (λr s₃ h₃=>Aa1 (wpAny_letTemporaryGo (Ab1 h₃))) λ_ _ x=>x)
 first
  | exact Ab1 (Aa1 fin)
  | exact Aa1 (Ab1 (Aa1 fin))
  | exact Aa1 fin
def xc2(I:Inv X A3 σ H s)(g:vb1 H a y o):s.TypeIs (.ref a) "dict":=by
 rcases g with⟨kvs,k,e,_,_⟩ | ⟨kvs,k,b,e,_,_,_⟩
 ·obtain⟨_,_,vs,_,dd⟩:=vf4 I.hok e
  exact dd.typeIs
 ·obtain⟨_,_,xs,_,dd⟩:=vf3 I.hok e
  exact dd.typeIs
def vt5(td ty:TE):TE:=λσ H Q=>td σ H λx H1=>ty σ H1 λy H2=>∃a v,x=.ref a/\vb1 H2 a y (some v)/\Q v H2
def ud4(ty td:TE):TE:=λσ H Q=>ty σ H λy H1=>td σ H1 λx H2=>∃a o,x=.ref a/\vb1 H2 a y o/\Q (.bl o.isSome) H2
def vu1(td ty tv:TE):TS:=λD σ H=>tv σ H λv H1=>td σ H1 λx H2=>ty σ H2 λy H3=>∃a H4,x=.ref a/\vj5 H3 a y v H4/\D.nx σ H4
section
variable{X:Cx}{o i e value:Expr}{pos pos' tpos:Pos}{td ty tv:TE}
def yh6(hu:X.A.units+1<cLine)(ho:PE X o td)(hi:PE X i ty)(hs:vz2 i):PE X (.Subscript o i pos) (vt5 td ty):=by
 intro A3 s σ H Q I h;refine wh9 PySem.F.slot_dict_getitem.lookup hs (thn (ho A3 s σ H _ I h) λu s1 ⟨x,H1,I1,rx,q1⟩=>thn (hi A3 s1 σ H1 _ I1 q1) λiv s2 hI91=>?_);obtain⟨y,H2,I2,ry,a,v,ex,g,q2⟩:=hI91;subst ex;obtain rfl:u=Value.ref a:=rx;exact⟨xc2 I2 g,xv5 hu I2 g ry λw' s3 I3 rw'=>⟨v,H2,I3,rw',q2⟩⟩
def wq3(hu:X.A.units+1<cLine)(hi:PE X i ty)(ho:PE X o td):PC X .In i o (ud4 ty td):=by
 intro A3 s σ H Q I h;refine thn (hi A3 s σ H _ I h) λiv s1 ⟨y,H1,I1,ry,q1⟩=>thn (ho A3 s1 σ H1 _ I1 q1) λu s2 hI92=>?_
 obtain⟨x,H2,I2,rx,a,ov,ex,g,q2⟩:=hI92;subst ex;obtain rfl:u=Value.ref a:=rx;exact uf2 hu I2 g ry λs3 I3=>⟨.bl ov.isSome,H2,I3,rfl,q2⟩
def xq0(hu:X.A.units+1<cLine)(ho:PE X o td)(hi:PE X i ty)(hv:PE X value tv)(hs:swapsWith value (some (.Subscript o i pos')) pos.line X.env=pure false) :
 PS X (.Assign [.Subscript o i pos'] value pos) (vu1 td ty tv):=by
 intro A3 s σ H D I h;refine wpAny_Assign_Subscript (thn (hv A3 s σ H _ I h) λr s1 ⟨v,H1,I1,rv,q1⟩=>thn (ho A3 s1 σ H1 _ I1 q1) λu s2 ⟨x,H2,I2,rx,q2⟩=>thn (hi A3 s2 σ H2 _ I2 q2) λiv s3 hI93=>?_) hs;obtain⟨y,H3,I3,ry,a,H4,ex,g,q3⟩:=hI93;subst ex;obtain rfl:u=Value.ref a:=rx;exact xv4 hu I3 g ry rv λs4 I4=>⟨σ,H4,I4,q3⟩
end
def wc3(h:Heap)(hb:sysModules<h.objs.size):ww4 P w H (h.push { cls:=.type "dict",data:=.dict #[] }) h.objs.size (.dK []):=
 ⟨Bb0 _,beq_eq_false_iff_ne.mpr (Ne.symm (Ar0 hb)),[],.nil,Heap.DictOf.new h⟩
def xi5(h:Heap)(hb:sysModules<h.objs.size):ww4 P w H (h.push { cls:=.type "dict",data:=.dict #[] }) h.objs.size (.dT []):=
 ⟨Bb0 _,beq_eq_false_iff_ne.mpr (Ne.symm (Ar0 hb)),[],.nil,_,#[],0,Ak0 _ rfl,⟨rfl,rfl,rfl⟩,rfl,rfl,List.nodup_nil⟩
def wn9:TE:=λ_ H Q=>∀p,H p=none->Q (.ref p) (upd H p (.dT []))
section
variable{X:Cx}{pos:Pos}
def xz7:PE X (.Dict [] [] pos) wn9:=λA3 s σ H Q I h=>
 wpAny_Dict_empty ⟨.ref s.heap.objs.size,_,I.laid (a:=s.heap.objs.size) (o:=.dT []) (t':=s.toks) (λ_ _ q=>Ab0 _ q) (Al0 _) (xi5 s.heap I.big),rfl,h _ (I.hok.fresh (Al0 _))⟩
end
def xe3:List (TE×TE)->St->Hp->(List (V×V)->Hp->Prop)->Prop
 | [],_,H,Q=>Q [] H
 | (tk,tv)::r,σ,H,Q=>tk σ H λx H1=>tv σ H1 λy H2=>xe3 r σ H2 λps H3=>Q ((x,y)::ps) H3
abbrev VV:List (V×V)->List (Value×Value)->Prop:=Paired λp q=>wv5 p.1 q.1/\wv5 p.2 q.2
def PPs(X:Cx)(pos:Pos)(keys:List (Option Expr))(values:List Expr)(trs:List (TE×TE)):Prop:=
 ∀(A3:List (Addr×Obj)) (s:Shared) (σ:St) (H:Hp) (Q:List (V×V)->Hp->Prop),Inv X A3 σ H s->xe3 trs σ H Q->
  wpAny (model X.prog X.w) X.A (evalPairs (pairTrees keys values X.env pos)) (λvs s'=>∃ps H',Inv X A3 σ H' s'/\VV ps vs/\Q ps H') X.xe s
def xq1:PPs X pos [] [] []:=λA3 s σ H Q I h=>pairTrees_nil_walk ⟨[],H,I,.nil,h⟩
def yq0(hk:PE X k tk)(hv:PE X v tv)(hr:PPs X pos ks vs trs) :
 PPs X pos (some k::ks) (v::vs) ((tk,tv)::trs):=λA3 s σ H Q I h=>
 pairTrees_cons_walk (thn (hk A3 s σ H _ I h) λu s1 ⟨x,H1,I1,rx,q1⟩=>thn (hv A3 s1 σ H1 _ I1 q1) λw2 s2 ⟨y,H2,I2,ry,q2⟩=>
  thn (hr A3 s2 σ H2 _ I2 q2) λws s3 ⟨ps,H3,I3,rel,q3⟩=>⟨(x,y)::ps,H3,I3,.cons ⟨rx,ry⟩ rel,q3⟩)
def ya5(kvs more:List (Key×V)):List (Key×V):=more.foldl (λacc kv=>wy4 acc kv.1 kv.2) kvs
theorem KV.merge:∀{more:List (Key×V)} {rs:List (Key×Value)} {kvs:List (Key×V)} {vs:List (Key×Value)},KV more rs->KV kvs vs->KV (ya5 kvs more) (merged vs rs):=by
 intro more rs kvs vs r;unfold KV at r;induction r generalizing kvs vs with
 | nil=>intro q;exact q
 | @cons p q ps qs h t ih=>
   intro r0;have e:KV (wy4 kvs p.1 p.2) (stored vs q.1 q.2):=by
    have:=r0.put p.1 h.2;rw[<-h.1];exact this
   exact ih e
theorem ya6:∀(more kvs:List (Key×V)),(ya5 kvs more).length<=kvs.length+more.length
 | [],kvs=>by show kvs.length<=kvs.length+0;omega
 | p::r,kvs=>by
   have h1:=ya6 r (wy4 kvs p.1 p.2);have h2:=zn9 kvs p.1 p.2;show (ya5 (wy4 kvs p.1 p.2) r).length<=_;rw[Au0];omega
theorem yo7:∀{kvs:List (Key×V)} {ws:List (Value×Value)},VV (kvs.map λkv=>(kV kv.1,kv.2)) ws->∃rs,Carries (zf8 P w) ws rs/\KV kvs rs
 | [],_,r=>by rw[List.map_nil] at r;cases r;exact⟨[],True.intro,.nil⟩
 | p::kvs,_,r=>by
   rw[Ax0] at r;cases r with
   | @cons a b as bs h t=>
     obtain⟨rs,c,q⟩:=yo7 (P:=P) (w:=w) t;obtain⟨b1,b2⟩:=b;exact⟨(p.1,b2)::rs,⟨ve3 h.1,rfl,c⟩,.cons ⟨rfl,h.2⟩ q⟩
def vn5(trs:List (TE×TE)):TE:=λσ H Q=>∀p,H p=none->xe3 trs σ (upd H p (.dK [])) λps H2=>H2 p=some (.dK [])/\∃kvs:List (Key×V),ps=kvs.map (λkv=>(kV kv.1,kv.2))/\kvs.length<=15/\Q (.ref p) (upd H2 p (.dK (ya5 [] kvs)))
def xr3(h:PPs X pos keys values trs)(hall:keys.all (·.isSome)=true)(hl:keys.length=values.length)(h0:keys≠[])(h15:keys.length<=15):PE X (.Dict keys values pos) (vn5 trs):=by
 intro A3 s σ H Q I q;have hn:=I.hok.fresh (Al0 s.heap.objs.size);have I1:=I.laid (a:=s.heap.objs.size) (o:=.dK []) (h':=s.heap.push { cls:=.type "dict",data:=.dict #[] }) (t':=s.toks) (λ_ _ q=>Ab0 _ q) (Al0 _) (wc3 s.heap I.big);refine wpAny_Dict_walk (knd:=zf8 X.prog X.w) hall hl h0 h15 (thn (h A3 _ σ _ _ I1 (q _ hn)) λws s2 hI94=>?_);obtain⟨ps,H2,I2,rel,e,kvs,ep,lk,q2⟩:=hI94;subst ep;obtain⟨rs,c,rk⟩:=yo7 (P:=X.prog) (w:=X.w) rel;obtain⟨z,hd,vs0,r0,dd⟩:=vp4 I2.hok e;cases r0;refine⟨rs,c,dd,λh' dd' hs=>⟨.ref s.heap.objs.size,_,?_,rfl,q2⟩⟩;have hz:(ya5 [] kvs).length<=sizeLine:=by
  have h1:=ya6 kvs [];rw[List.length_nil] at h1;rw[sizeLine_eq];omega
 have he:∃q,h'.get? s.heap.objs.size=some q:=let ⟨q,_,_,hq,_⟩:=dd';⟨q,hq⟩;exact yr8 I2 (by rw[e];exact True.intro) hs he (wf5 hz hd (rk.merge .nil) dd')
structure M2(X:Cx)(o:Expr)(m:Str)(apos:Pos)(e f:Expr)(cpos:Pos):Prop where
 base:attributeBase o m X.env (eval o X.env)=eval o X.env
 few:((backTo cpos (starEach [e,f] X.env)).all (λx=>!x.1)&&(backToKw cpos (keywordEach [] X.env)).all (λx=>x.1.isSome)
  && decide (([e,f]:List Expr).length+([]:List Keyword).length+(if ([]:List Keyword).isEmpty then 0 else 1)<30))=true
 line:(apos.endLine == cpos.line)=true
 trees:backTo cpos (starEach [e,f] X.env)=[(false,eval e X.env),(false,eval f X.env)]
def IsD(H:Hp)(a:Addr):Prop:=(∃kvs,Rd H a (.dK kvs))\/∃kvs,Rd H a (.dT kvs)
def ws2(I:Inv X A3 σ H s)(d:IsD H a) :
 s.TypeIs (.ref a) "dict"/\(∀b,Value.ref a=.ref b->∃ob,s.heap.get? b=some ob/\ob.dict=none)/\(a == sysModules)=false:=by
 rcases d with⟨kvs,e⟩ | ⟨kvs,e⟩
 ·obtain⟨_,hd,vs,_,dd⟩:=vf4 I.hok e
  refine⟨dd.typeIs,λb q=>?_,hd⟩;cases q;obtain⟨ob,_,_,h1,h2,_⟩:=dd;exact⟨ob,h1,h2.2.1⟩
 ·obtain⟨_,hd,xs,_,dd⟩:=vf3 I.hok e
  refine⟨dd.typeIs,λb q=>?_,hd⟩;cases q;obtain⟨ob,_,_,h1,h2,_⟩:=dd;exact⟨ob,h1,h2.2.1⟩
section
variable{X:Cx}{A3:List (Addr×Obj)}{σ:St}{H:Hp}{s:Shared}{a:Addr}{y d:V}{u r:Value}{o:Option V}{A:Around}{E:Value->Shared->Prop}
def wu3(hu:A.units+1<cLine)(I:Inv X A3 σ H s)(g:vb1 H a y o)(ry:wv5 y u)(rd:wv5 d r)(h:∀w' s',Inv X A3 σ H s'->wv5 (o.getD d) w'->Q w' s') :
 wpAny (model X.prog X.w) A (call (.builtin "dict.get") [.ref a,u,r]) Q E s:=by
 rcases g with⟨kvs,k,e,ey,l⟩ | ⟨kvs,k,b,e,ey,eb,l⟩
 ·subst ey
  obtain⟨z,hd,vs,rel,dd⟩:=vf4 I.hok e;refine call_meetsIn PySem.F.slot_dict_get dd.typeIs PySem.F.entry_dict_get (PySem.F.args_dict_get_3 _ _ _) (meets_dict_get_default (zf8 X.prog X.w) a (ve3 ry) hd r) ⟨_,dd.mapOf,h _ _ (I.tok _) ?_⟩;rw[l];exact(rel.val k).getD rd
 ·subst ey
  cases (show u=Value.ref b from ry);obtain⟨z,hd,xs,rel,dd⟩:=vf3 I.hok e;refine call_meetsIn PySem.F.slot_dict_get dd.typeIs PySem.F.entry_dict_get (PySem.F.args_dict_get_3 _ _ _) (meetsH_dict_get_default (tupleKind (zf8 X.prog X.w)) a b hd r) ⟨tupleKind_room_in1 hu,k,xs,yn7 I.hok eb,dd,h _ _ (I.tok _) ?_⟩;rw[l];exact(rel.val k).getD rd
end
def wo0(td ty tx:TE):TE:=λσ H Q=>td σ H λx H1=>∃a,x=.ref a/\IsD H1 a/\ty σ H1 λy H2=>tx σ H2 λz H3=>∃o,vb1 H3 a y o/\Q (o.getD z) H3
section
variable{X:Cx}{o e f:Expr}{apos cpos:Pos}{td ty tx:TE}
def xz8(hu:X.A.units+1<cLine)(ho:PE X o td)(he:PE X e ty)(hf:PE X f tx)(m:M2 X o "get" apos e f cpos):PE X (.Call (.Attribute o "get" apos) [e,f] [] cpos) (wo0 td ty tx):=by
 intro A3 s σ H Q I h;refine wpAny_Call_method m.base m.few m.line PySem.F.plainAttrs_dict PySem.F.slot_dict_get PySem.F.type_dict_get (thn (ho A3 s σ H _ I h) λu s1 hI95=>?_);obtain⟨x,H1,I1,rx,a,ex,d,q1⟩:=hI95;subst ex;obtain rfl:u=Value.ref a:=rx;obtain⟨t1,t2,_⟩:=ws2 I1 d;refine⟨t1,t2,?_⟩;rw[m.trees];refine Calls.callWith_builtin rfl (Calls.evalArgs_plain (Calls.spliced_cons (thn (he A3 s1 σ H1 _ I1 q1) λiv s2 ⟨y,H2,I2,ry,q2⟩=>Calls.spliced_cons (thn (hf A3 s2 σ H2 _ I2 q2) λfv s3 ⟨z,H3,I3,rz,ov,g,q3⟩=>Calls.spliced_nil ?_))));exact wu3 hu I3 g ry rz λw' s4 I4 rw'=>⟨_,H3,I4,rw',q3⟩
end
section
variable{X:Cx}{A3:List (Addr×Obj)}{σ:St}{H:Hp}{s:Shared}{a:Addr}{kvs:List (Key×V)}{A:Around}{E:Value->Shared->Prop}{y:V}{u:Value}
end
section
variable{κ:Type}[DecidableEq κ]
end
def wz4(cells:List (Str×Addr)):List (Str×NameKind)->List (Str×Addr)->List (Str×Addr)
 | [],cs=>cs
 | (n,k)::r,cs=>wz4 cells r (if k == .free then (match cells.lookup n with | some a=>(n,a)::cs | none=>cs) else cs)
theorem zv5:∀(names:List (Str×NameKind)) (cs:List (Str×Addr)),(∀y∈names,y.2=.free->∃a,env.cells.lookup y.1=some a)->
 (forIn (m:=Sem) names cs λ(x:Str×NameKind) (r:List (Str×Addr))=>
  match x with
  | (name,kind)=>if (kind == .free)=true then do let a <-cellOf env name;pure (ForInStep.yield ((name,a)::r)) else pure (ForInStep.yield r))=pure (wz4 env.cells names cs)
 | [],cs,_=>rfl
 | (n,k)::r,cs,h=>by
   rw[List.forIn_cons];have ih:=λcs'=>zv5 (env:=env) r cs' λy hy=>h y (Bg0 _ hy)
   by_cases hk:(k == NameKind.free)=true
   ·have hk':k=.free:=by simpa using hk
    obtain⟨a,ha⟩:=h (n,k) Br0 hk';simp only[hk,if_true,wz4,cellOf];have ha':env.cells.lookup n=some a:=ha;rw[ha'];exact ih _
   ·simp only[hk,wz4]
    exact ih _
def ys0(h:∀y∈scope.names,y.2=.free->∃a,env.cells.lookup y.1=some a):closureFor scope env=pure (wz4 env.cells scope.names []):=by
 simp only[closureFor];have e:=zv5 (env:=env) scope.names [] h;have e2:=congrArg (λm:Sem (List (Str×Addr))=>m >>= pure) e;exact e2
def zl1{α:Type}{x n:Str}{v:α}{l:List (Str×α)}:List.lookup x ((n,v)::l)=if x=n then some v else l.lookup x:=by
 rw[List.lookup_cons];by_cases e:x=n
 ·subst e;simp
 ·rw[if_neg e]
  have:(x == n)=false:=by simpa using e
  rw[this]
theorem xi8{cells:List (Str×Addr)}:∀(names:List (Str×NameKind)) (cs:List (Str×Addr)) (x:Str) (c:Addr),
 (∀x c,cs.lookup x=some c->cells.lookup x=some c)->(wz4 cells names cs).lookup x=some c->cells.lookup x=some c
 | [],cs,x,c,h,e=>h x c e
 | (n,k)::r,cs,x,c,h,e=>by
   refine xi8 r _ x c (λy d hy=>?_) e;by_cases hk:(k == NameKind.free)=true
   ·rw[if_pos hk] at hy
    cases ha:cells.lookup n with
    | none=>rw[ha] at hy;exact h y d hy
    | some a=>
      rw[ha] at hy;have hy:List.lookup y ((n,a)::cs)=some d:=hy;rw[zl1] at hy;by_cases e:y=n
      ·rw[if_pos e] at hy;cases hy;rw[e];exact ha
      ·rw[if_neg e] at hy;exact h y d hy
   ·rw[if_neg hk] at hy;exact h y d hy
theorem yy0{cells:List (Str×Addr)}:∀(names:List (Str×NameKind)) (cs:List (Str×Addr)) (x:Str),(∃c,cs.lookup x=some c)->∃c,(wz4 cells names cs).lookup x=some c
 | [],_,_,h=>h
 | (n,k)::r,cs,x,h=>by
   refine yy0 r _ x ?_;by_cases hk:(k == NameKind.free)=true
   ·rw[if_pos hk]
    cases ha:cells.lookup n with
    | none=>exact h
    | some a=>
      show ∃c,List.lookup x ((n,a)::cs)=some c;rw[zl1];by_cases e:x=n
      ·rw[if_pos e];exact⟨_,rfl⟩
      ·rw[if_neg e];exact h
   ·rw[if_neg hk];exact h
theorem xi9{cells:List (Str×Addr)}:∀(names:List (Str×NameKind)) (cs:List (Str×Addr)) (x:Str),(x,NameKind.free)∈names->(∃a,cells.lookup x=some a)->∃c,(wz4 cells names cs).lookup x=some c
 | [],_,_,h,_=>nomatch h
 | (n,k)::r,cs,x,h,ha=>by
   rcases Aj0.mp h with e | h'
   ·have e1:x=n:=congrArg Prod.fst e
    have e2:NameKind.free=k:=congrArg Prod.snd e;subst e1 e2;obtain⟨a,ha⟩:=ha;refine yy0 r _ x ?_;show ∃c,List.lookup x (if (NameKind.free == NameKind.free)=true then (match cells.lookup x with | some a=>(x,a)::cs | none=>cs) else cs)=some c;rw[if_pos (by rfl),ha];show ∃c,List.lookup x ((x,a)::cs)=some c;rw[zl1,if_pos rfl];exact⟨_,rfl⟩
   ·exact xi9 r _ x h' ha
def pick(σ:St)(ixs:List (Option Nat)):St:=ixs.map λo=>match o with
 | some i=>(σ[i]?).join
 | none=>none
def zh4(X:Cx)(N':List Str)(scope:Scope)(cl:List (Str×Addr))(C:Addr)(s:Shared)(H:Hp)(fp:List Addr):Cx:=
 { X with N:=N',s₀:=s,H₀:=H,env:=compEnvC scope cl C X.env,outer:=X.stack,ex:=fp,fn:=λ_=>false,pn:=[],xe:=λ_ _=>False }
def yd6(env:Env)(n:Str)(k:NameKind):NameKind:=if (k == NameKind.free&&env.scope.kind == .function&&env.kindOf n == some .cell)=true then .cell else k
theorem ye2{env:Env}:∀{names:List (Str×NameKind)} {x:Str},(names.map λ(n,k)=>if (k == NameKind.free&&env.scope.kind == .function&&env.kindOf n == some .cell) then (n,NameKind.cell) else (n,k)).lookup x=(names.lookup x).map (yd6 env x)
 | [],_=>rfl
 | (n,k)::r,x=>by
   have ih:=@ye2 env r x;rw[Ax0];have e1:(if (k == NameKind.free&&env.scope.kind == .function&&env.kindOf n == some .cell)=true then (n,NameKind.cell) else (n,k))=(n,yd6 env n k):=by
    unfold yd6;split<;>rfl
   show List.lookup x ((if (k == NameKind.free&&env.scope.kind == .function&&env.kindOf n == some .cell)=true then (n,NameKind.cell) else (n,k))::_)=_;rw[e1,zl1,zl1];by_cases e:x=n
   ·rw[if_pos e,if_pos e,e];rfl
   ·rw[if_neg e,if_neg e];exact ih
structure zj5(X:Cx)(N':List Str)(ixs:List (Option Nat))(scope:Scope):Prop where
 kind:scope.kind=.function
 nocell:∀y∈scope.names,y.2≠.cell
 loc:∀y∈scope.names,y.2=.local->scope.names.lookup y.1=some .local
 len:ixs.length=N'.length
 free:∀y∈scope.names,y.2=.free->X.env.scope.names.lookup y.1=some .cell\/X.env.scope.names.lookup y.1=some .free
 slot:∀(j i:Nat) (y:Str),N'[j]?=some y->ixs[j]?=some (some i)->X.N[i]?=some y/\scope.names.lookup y=some .free
section
variable{X:Cx}{A3:List (Addr×Obj)}{σ:St}{H:Hp}{s:Shared}{N':List Str}{ixs:List (Option Nat)}{scope:Scope}
open H in
def zj5.clos(S:zj5 X N' ixs scope)(I:Inv X A3 σ H s):closureFor scope X.env=pure (wz4 X.env.cells scope.names []):=
 ys0 λy hy hf=>I.ok.has y.1 (S.free y hy hf)
open H in
def Inv.comp{t':Nat}(I:Inv X A3 σ H s)(S:zj5 X N' ixs scope)(hf:∀b∈fp,vd4 X A3 H b)(hlt:∀b∈fp,∃o,s.heap.get? b=some o/\∀v,o.data≠.cell v)(hk:∀b o,s.heap.get? b=some o->h'.get? b=some o)(hn:h'.Ns s.heap.objs.size (λ_=>none)) :
 Inv (zh4 X N' scope (wz4 X.env.cells scope.names []) s.heap.objs.size s H fp) [] (pick σ ixs) H { s with heap:=h',toks:=t' }:=by
 have sub:∀x c,(wz4 X.env.cells scope.names []).lookup x=some c->X.env.cells.lookup x=some c:=λx c e=>xi8 _ _ x c (λ_ _ z=>absurd z (by simp)) e
 have cellOld:∀x c,X.env.cells.lookup x=some c->c<s.heap.objs.size:=λx c e=>by obtain⟨v,z⟩:=I.cell x c e;exact z.lt
 have fpOld:∀b∈fp,b<s.heap.objs.size:=λb hb=>by obtain⟨o,e,_⟩:=hlt b hb;exact Heap.lt_size e
 have kinds:∀x,Env.kindOf (compEnvC scope (wz4 X.env.cells scope.names []) s.heap.objs.size X.env) x=(scope.names.lookup x).map (yd6 X.env x):=λx=>ye2
 have hasF:∀x,scope.names.lookup x=some .free->∃c,(wz4 X.env.cells scope.names []).lookup x=some c:=λx e=>
  xi9 _ _ x (PySem.mem_of_lookup e) (I.ok.has x (S.free _ (PySem.mem_of_lookup e) rfl))
 have freeOf:∀x,(Env.kindOf (compEnvC scope (wz4 X.env.cells scope.names []) s.heap.objs.size X.env) x=some .cell\/Env.kindOf (compEnvC scope (wz4 X.env.cells scope.names []) s.heap.objs.size X.env) x=some .free)->scope.names.lookup x=some .free:=λx e=>by
  rw[kinds x] at e;cases q:scope.names.lookup x with
  | none=>rw[q] at e;rcases e with e | e<;>cases e
  | some k=>
    rw[q] at e;have nc:=S.nocell _ (PySem.mem_of_lookup q);unfold yd6 at e;rcases e with e | e
    ·have e:=Option.some.inj e
     dsimp only at e;split at e
     ·rename_i hh
      have:(k == NameKind.free)=true:=by
       cases hz:(k == NameKind.free) with
       | true=>rfl
       | false=>rw[hz] at hh;simp at hh
      rw[show k=.free by simpa using this]
     ·exact absurd e nc
    ·have e:=Option.some.inj e
     dsimp only at e;split at e
     ·cases e
     ·rw[e]
 refine⟨⟨I.ok.mod,S.kind,I.ok.glob,I.ok.blt,Al0 _,λx y c h1 h2=>I.ok.inj x y c (sub x c h1) (sub y c h2),λx hx=>hasF x (freeOf x hx),(λ_ _ z _=>Bool.noConfusion z),I.ok.hd,I.ok.frames,.inl rfl,λb hb=>⟨Ar0 (fpOld b hb),λx c e=>(hf b hb).2.2.2.2.1 x c (sub x c e)⟩,λb o e=>I.bs b o e,Av0 I.ok.bsz I.sz,λb o e hb=>?_,λb hb z=>?_,I.stack,I.stkFree⟩,rfl,I.bare,Un.kept hk,⟨_,hn,λj x v e1 e2 e3=>?_⟩,λx c e=>?_,I.hok.fresh (Al0 _),λx c e=>I.freeC x c (sub x c e),(λp hp=>absurd (show p∈([]:List (Addr×Obj)) from hp) (by simp)),I.hok.kept hk,?_⟩
 ·-- base objects are no iterators
  have hf':=hf b hb;rcases hf'.2.2.2.1 with z | z
  ·exact I.ok.noex b o e z
  ·exact absurd (Ap0 (Heap.lt_size (I.ok.bs b o e).1) z) (Bc0 _)
 ·-- iterators are no frames
  have hf':=hf b hb;rcases Aj0.mp (I.stkSub b z) with e | e
  ·exact hf'.2.1 e
  ·exact hf'.2.2.1 e
 ·-- the names
  have e2':(pick σ ixs)[j]?=some (some v):=e2;unfold pick at e2';rw[Ag0] at e2';cases q:ixs[j]? with
  | none=>rw[q] at e2';cases e2'
  | some o=>
    rw[q] at e2';cases o with
    | none=>cases e2'
    | some i=>
      have e4:(σ[i]?).join=some v:=Option.some.inj e2';have e5:σ[i]?=some (some v):=by
       cases z:σ[i]? with
       | none=>rw[z] at e4;cases e4
       | some a=>rw[z] at e4;rw[show a=some v from e4]
      obtain⟨hx,hfr⟩:=S.slot j i x e1 q;obtain⟨m,_,hl⟩:=I.loc;have vis:Vis X.env.scope x:=by
       rcases S.free _ (PySem.mem_of_lookup hfr) rfl with z | z
       ·exact .inr (.inl z)
       ·exact .inr (.inr z)
      obtain⟨u,r,l⟩:=hl i x v hx e5 vis;refine⟨u,r,.inr ⟨?_,?_⟩⟩
      ·show Env.kindOf (compEnvC scope (wz4 X.env.cells scope.names []) s.heap.objs.size X.env) x=some .cell\/Env.kindOf (compEnvC scope (wz4 X.env.cells scope.names []) s.heap.objs.size X.env) x=some .free
       rw[kinds x,hfr];show some (yd6 X.env x .free)=_\/some (yd6 X.env x .free)=_;unfold yd6;split
       ·exact .inl rfl
       ·exact .inr rfl
      ·obtain⟨c,ec⟩:=hasF x hfr
       refine⟨c,ec,?_⟩;have ec':=sub x c ec;rcases l with⟨k,_⟩ | ⟨_,c2,e6,z⟩
       ·have k':X.env.scope.names.lookup x=some .local:=k
        rcases S.free _ (PySem.mem_of_lookup hfr) rfl with z | z<;>(rw[show ((x,NameKind.free):Str×NameKind).1=x from rfl,k'] at z;cases z)
       ·rw[ec'] at e6;cases e6
        obtain⟨o,ho,hd⟩:=z;exact⟨o,hk c o ho,hd⟩
 ·obtain⟨v,o,ho,hd⟩:=I.cell x c (sub x c e)
  exact⟨v,o,hk c o ho,hd⟩
 ·show (pick σ ixs).length=N'.length
  unfold pick;rw[Aa0];exact S.len
end
section
variable{prog:Program}{w:World}{A:Around}{R:Result->Shared->Prop}{s:Shared}
theorem yr9(I:Nat->Shared->Prop)(turn:∀n s,I n s->wpAny (model prog w) A (pyNext it) (λr s₁=>match r with
  | none=>R (.ok .next) s₁
  | some v=>wpAny (model prog w) A (letOwnedTupleGo target it v) (λ_ s₂=>wpAny (model prog w) A (assign target env v) (λ_ s₃=>
   wpAny (model prog w) A (forIn ifs true λc r=>if r=true then do let ok <-isTrue c env (eval c env);pure (ForInStep.yield ok) else pure (ForInStep.yield r)) (λok s₄=>
    if ok=true then wpAny (model prog w) A (eval elt env) (λx s₅=>
     wpAny (model prog w) A (call (.builtin "list.append") [acc,x]) (λ_ s₆=>∃m,m<n/\I m s₆) (λ_ _=>False) s₅) (λ_ _=>False) s₄
    else ∃m,m<n/\I m s₄) (λ_ _=>False) s₃) (λ_ _=>False) s₂) (λ_ _=>False) s₁) (λ_ _=>False) s)(n:Nat)(h:I n s) :
 codeAny (model prog w) A (.compLoop (.ListComp elt [⟨target,iter,ifs,0⟩] scope pos) 0 it acc env) R s:=by
 refine codeAny_loop rfl I (λn s hI=>?_) n h;show wpAny _ A ((compTurn (.ListComp elt [⟨target,iter,ifs,0⟩] scope pos) 0 it acc env).onRaise (λx=>do noteFrame x env;theTreesLotGoes x)) _ _ s;refine wpAny_noted ?_;rw[compTurn_list];refine Aa1 (wpAny_standAt (Aa1 (Ae1 (turn n s hI) (λr s₁ h₁=>?_) λ_ _ h'=>h'.elim)));cases r with
 | none=>exact Ab1 h₁
 | some v=>
   refine Aa1 (Ae1 h₁ (λ_ s₂ h₂=>Aa1 (Ae1 h₂ (λ_ s₃ h₃=>Aa1 (Ae1 h₃ (λok s₄ h₄=>?_) λ_ _ h'=>h'.elim)) λ_ _ h'=>h'.elim)) λ_ _ h'=>h'.elim);cases ok with
   | false=>exact Ab1 ⟨rfl,h₄⟩
   | true=>
     exact Aa1 (Aa1 (Ae1 h₄ (λx s₅ h₅=>Aa1 (Ae1 h₅ (λ_ s₆ h₆=>Ab1 (Ab1 ⟨rfl,h₆⟩)) λ_ _ h'=>h'.elim)) λ_ _ h'=>h'.elim))
end
def PTs(X:Cx)(ifs:List Expr)(t:TT):Prop:=
 ∀(A3:List (Addr×Obj)) (s:Shared) (σ:St) (H:Hp) (Q:Bool->Hp->Prop),Inv X A3 σ H s->t σ H Q->
  wpAny (model X.prog X.w) X.A (forIn ifs true λc r=>if r=true then do let ok <-isTrue c X.env (eval c X.env);pure (ForInStep.yield ok) else pure (ForInStep.yield r)) (TP X A3 σ Q) X.xe s
def vs8:TT:=λ_ H Q=>Q true H
def wi3:PTs X [] vs8:=λ_ _ _ H _ I h=>wpAny_tests_nil ⟨H,I,h⟩
def wi2(h:PT X c t):PTs X [c] t:=λA3 s σ H Q I q=>wpAny_tests_one (h A3 s σ H Q I q)
def vk1(wi:TI)(ixs:List (Option Nat))(g:TG)(tc:TT)(te:TE):TE:=λσ H Q=>wi σ H λJ H1=>∀D,H1 D=none->
 ∃W:Nat->Nat->St->Hp->Prop,(∃m,W 0 m (pick σ ixs) (upd H1 D (.lst [])))/\∀i m σ' H',W i m σ' H'->
  (J.stop i H'/\Q (.ref D) H')\/(J.go i H'/\∃N:St->Hp->Prop,(∀σ2 H2,N σ2 H2->∃m',m' < m/\W (i+1) m' σ2 H2)/\∀x H2,J.yld i H' x H2->g x σ' H2 λσ3 H3=>
   tc σ3 H3 λb H4=>if b=true then te σ3 H4 λy H5=>∃ys,H5 D=some (.lst ys)/\ys.length<sizeLine/\N σ3 (upd H5 D (.lst (ys++[y]))) else N σ3 H4)
section
variable{X:Cx}{N':List Str}{ixs:List (Option Nat)}{scope:Scope}{tg iter elt:Expr}{ifs:List Expr}{wi:TI}{g:TG}{tc:TT}{te:TE}{pos spos:Pos}
def yo6{A3:List (Addr×Obj)}{σ:St}{H2:Hp}{s2:Shared}{it:Addr}{fp:List Addr}{tn:Nat->Heap->Prop}{J:It}{E:Value->Shared->Prop}{RR:Value->Addr->Result->Shared->Prop}{Q:VK}(S:zj5 X N' ixs scope)(hc:X.calm=true)(I2:Inv X A3 σ H2 s2)(T:vj7 X.prog X.w X.K tg J fp it tn)(st2:tn 0 s2.heap)(f2:∀b∈fp,vd4 X A3 H2 b)(hin:∀cl C s H fp,PG (zh4 X N' scope cl C s H fp) tg g/\PTs (zh4 X N' scope cl C s H fp) ifs tc/\PE (zh4 X N' scope cl C s H fp) elt te)(hw:∀D,H2 D=none->∃W:Nat->Nat->St->Hp->Prop,(∃m,W 0 m (pick σ ixs) (upd H2 D (.lst [])))/\∀i m σ' H',W i m σ' H'->
  (J.stop i H'/\Q (.ref D) H')\/(J.go i H'/\∃N:St->Hp->Prop,(∀σ2 H2,N σ2 H2->∃m',m' < m/\W (i+1) m' σ2 H2)/\∀x H2,J.yld i H' x H2->g x σ' H2 λσ3 H3=>
   tc σ3 H3 λb H4=>if b=true then te σ3 H4 λy H5=>∃ys,H5 D=some (.lst ys)/\ys.length<sizeLine/\N σ3 (upd H5 D (.lst (ys++[y]))) else N σ3 H4))(hR:∀(D C:Addr) (H':Hp) (s':Shared) (m:Str->Option Value),s'.heap.Ns C m->C≠X.env.locals->H' C=none->X.s₀.heap.objs.size<=C->(∀x c,X.env.cells.lookup x=some c->c≠C)->(∀p∈X.pn++A3,p.1≠C)->C∉X.fs->Inv X A3 σ H' s'->Q (.ref D) H'->RR (.ref D) C (.ok .next) s') :
 wpAny (model X.prog X.w) X.A (newList []) (λacc s₃=>wpAny (model X.prog X.w) X.A (newFunctionEnv scope X.env.globals (wz4 X.env.cells scope.names []) [] X.env.qual none .none (some X.env)) (λcenv s₄=>
  codeAny (model X.prog X.w) X.A (.compStart (.ListComp elt [⟨tg,iter,ifs,0⟩] scope pos) 0 (.ref it) acc { cenv with scope:=relabel scope X.env }) (RR acc cenv.locals) s₄) E s₃) E s2:=by
 have fD:H2 s2.heap.objs.size=none:=I2.hok.fresh (Al0 _);refine wpAny_newObj_type ?_;have I3:Inv X A3 σ (upd H2 s2.heap.objs.size (.lst [])) { s2 with heap:=s2.heap.push { cls:=.type "list",dict:=none,data:=.seq ([]:List Value).toArray } }:=
  I2.lnew (ys:=[]) (its:=[]) (t':=s2.toks) .nil (Bb0 _)
 generalize hs3:({ s2 with heap:=s2.heap.push { cls:=.type "list",dict:=none,data:=.seq ([]:List Value).toArray } }:Shared)=s3 at I3;have kp3:∀b o,s2.heap.get? b=some o->s3.heap.get? b=some o:=λb o e=>by rw[<-hs3];exact Ab0 _ e
 have os3:s3.heap.objs.size=s2.heap.objs.size+1:=by rw[<-hs3];exact Bq0 _ _
 have goal:wpAny (model X.prog X.w) X.A (newFunctionEnv scope X.env.globals (wz4 X.env.cells scope.names []) [] X.env.qual none .none (some X.env)) (λcenv s₄=>
  codeAny (model X.prog X.w) X.A (.compStart (.ListComp elt [⟨tg,iter,ifs,0⟩] scope pos) 0 (.ref it) (.ref s2.heap.objs.size) { cenv with scope:=relabel scope X.env }) (RR (.ref s2.heap.objs.size) cenv.locals) s₄) E s3:=by
  refine wpAny_newFunctionEnv S.nocell (by intro y hy;simp at hy) (λh1 hns hsb=>?_) S.kind;have kp4:∀b o,s3.heap.get? b=some o->h1.get? b=some o:=λb o e=>hsb.extBut b o (Ar0 (Heap.lt_size e)) (Ab0 _ e)
  have fpO:∀b∈fp,∃o,s2.heap.get? b=some o/\∀v,o.data≠.cell v:=T.obj 0 s2.heap st2;have f3:∀b∈fp,vd4 X A3 (upd H2 s2.heap.objs.size (.lst [])) b:=λb hb=>by
   obtain⟨o,e,_⟩:=fpO b hb;exact⟨by rw[za9 (Ar0 (Heap.lt_size e))];exact(f2 b hb).1,(f2 b hb).2⟩
  have I4:=I3.comp (h':=h1) (t':=s3.toks+([]:List (Str×Value)).length) S f3 (λb hb=>let ⟨o,e,d⟩:=fpO b hb;⟨o,kp3 b o e,d⟩) kp4 hns;have st4:tn 0 h1:=T.keep 0 _ _ st2 λb _ o e=>kp4 b o (kp3 b o e)
  show codeAny (model X.prog X.w) X.A (.compStart (.ListComp elt [⟨tg,iter,ifs,0⟩] scope pos) 0 (.ref it) (.ref s2.heap.objs.size) (compEnvC scope (wz4 X.env.cells scope.names []) s3.heap.objs.size X.env)) (RR (.ref s2.heap.objs.size) s3.heap.objs.size) { s3 with heap:=h1,toks:=s3.toks+([]:List (Str×Value)).length };have st4':tn 0 ({ s3 with heap:=h1,toks:=s3.toks+([]:List (Str×Value)).length }:Shared).heap:=st4;generalize ({ s3 with heap:=h1,toks:=s3.toks+([]:List (Str×Value)).length }:Shared)=s4 at I4 st4' ⊢;obtain⟨W,⟨m0,w0⟩,step⟩:=hw s2.heap.objs.size fD;have fpOld:∀b∈fp,b<s3.heap.objs.size:=λb hb=>by
   obtain⟨o,e,_⟩:=fpO b hb;exact Heap.lt_size (kp3 b o e)
  have stat:∀{H':Hp},(∀b∈fp,H' b=none)->∀b∈fp,vd4 (zh4 X N' scope (wz4 X.env.cells scope.names []) s3.heap.objs.size s3 (upd H2 s2.heap.objs.size (.lst [])) fp) [] H' b:=λhn b hb=>
   ⟨hn b hb,Ar0 (fpOld b hb),λz=>I4.ok.exfs b hb z,.inl hb,(I4.ok.exf b hb).2,λp hp=>absurd (show p∈([]:List (Addr×Obj)) from hp) (by simp)⟩
  have loop:codeAny (model X.prog X.w) X.A (.compLoop (.ListComp elt [⟨tg,iter,ifs,0⟩] scope pos) 0 (.ref it) (.ref s2.heap.objs.size) (compEnvC scope (wz4 X.env.cells scope.names []) s3.heap.objs.size X.env)) (RR (.ref s2.heap.objs.size) s3.heap.objs.size) s4:=by
   obtain⟨hg,ht,he⟩:=hin (wz4 X.env.cells scope.names []) s3.heap.objs.size s3 (upd H2 s2.heap.objs.size (.lst [])) fp;refine yr9 (λn s'=>∃i σ' H',Inv (zh4 X N' scope (wz4 X.env.cells scope.names []) s3.heap.objs.size s3 (upd H2 s2.heap.objs.size (.lst [])) fp) [] σ' H' s'/\tn i s'.heap/\(∀b∈fp,H' b=none)/\W i n σ' H') ?_ m0 ⟨0,_,_,I4,st4',λb hb=>(f3 b hb).1,w0⟩;rintro n s5 ⟨i,σ5,H5,I5,st5,fr5,w5⟩;rcases step i n σ5 H5 w5 with⟨stop,q⟩ | ⟨go,N,hN,go2⟩
   ·refine thn (T.done (zh4 X N' scope (wz4 X.env.cells scope.names []) s3.heap.objs.size s3 (upd H2 s2.heap.objs.size (.lst [])) fp) rfl rfl rfl hc i [] s5 σ5 H5 (λ_ _=>False) I5 (stat fr5) st5 stop) λr s6 hI96=>?_
    obtain⟨hr,I6⟩:=hI96;subst hr;obtain⟨m,hm,_⟩:=I6.loc;refine hR _ _ H5 s6 m hm (Ne.symm (Ar0 I3.lt)) I6.free I3.sz (λx c e z=>?_) (λp hp z=>?_) (I3.nofs (Al0 _)) (I3.call' (ch:=fp) I6.os I6.base I6.hok I6.bare λb hb=>⟨(f3 b hb).2.2.2.1,(f3 b hb).2.1,(f3 b hb).2.2.2.2.1,(f3 b hb).2.2.2.2.2⟩) q
    ·obtain⟨v,y⟩:=I3.cell x c e
     have:=y.lt;rw[z] at this;exact absurd this (Bc0 _)
    ·have:=Heap.lt_size (I3.pin p hp).1
     rw[z] at this;exact absurd this (Bc0 _)
   ·refine thn (T.item (zh4 X N' scope (wz4 X.env.cells scope.names []) s3.heap.objs.size s3 (upd H2 s2.heap.objs.size (.lst [])) fp) rfl rfl rfl hc i [] s5 σ5 H5 (λ_ _=>False) I5 (stat fr5) st5 go) λr s6 hI97=>?_
    obtain⟨u,hr,h6⟩:=hI97;subst hr;refine thn h6 λ_ s7 hI98=>?_
    obtain⟨x,H7,I7,r7,y7,st7,fr7⟩:=hI98;have I7':=I7.pinned (stat fr7) (T.obj _ _ st7);refine thn (hg _ s7 σ5 H7 x u _ I7' r7 (go2 x H7 y7)) λ_ s8 hI99=>?_
    obtain⟨σ8,H8,I8,q8⟩:=hI99;refine thn (ht _ s8 σ8 H8 _ I8 q8) λok s9 hI100=>?_
    obtain⟨H9,I9,q9⟩:=hI100;have again:∀{sz:Shared} {σz:St} {Hz:Hp},Inv (zh4 X N' scope (wz4 X.env.cells scope.names []) s3.heap.objs.size s3 (upd H2 s2.heap.objs.size (.lst [])) fp) ([]++yu6 fp s7.heap) σz Hz sz->N σz Hz->
     ∃m,m<n/\∃i σ' H',Inv (zh4 X N' scope (wz4 X.env.cells scope.names []) s3.heap.objs.size s3 (upd H2 s2.heap.objs.size (.lst [])) fp) [] σ' H' sz/\tn i sz.heap/\(∀b∈fp,H' b=none)/\W i m σ' H':=λ{sz σz Hz} Iz nz=>by
     obtain⟨m',hm,wz⟩:=hN σz Hz nz;refine⟨m',hm,i+1,σz,Hz,Iz.unpinned,T.keep _ _ _ st7 λb hb o e=>(Iz.pin (b,o) (Am0 _ (Am0 _ (zw8 hb e)))).1,λb hb=>?_,wz⟩;obtain⟨o,e,d⟩:=T.obj _ _ st7 b hb;exact(Iz.pin (b,o) (Am0 _ (Am0 _ (zw8 hb e)))).2.1
    cases ok with
    | false=>
      rw[if_neg (by decide)] at q9 ⊢;exact again I9 q9
    | true=>
      rw[if_pos rfl] at q9 ⊢;refine thn (he _ s9 σ8 H9 _ I9 q9) λv s10 hI101=>?_
      obtain⟨y,H10,I10,r10,ys,hD,hz,q10⟩:=hI101;refine thn (zj1 _ s10 σ8 H10 (.ref s2.heap.objs.size) [y] (.ref s2.heap.objs.size) [v] (λ_ H=>N σ8 H) I10 rfl (.cons r10 .nil) ⟨_,ys,y,rfl,rfl,hD,hz,q10⟩) λ_ s11 hI102=>?_
      obtain⟨_,H11,I11,_,q11⟩:=hI102;exact again I11 q11
  refine codeAny_compStart_list loop (T.self _ 0 _ _ _ st4' loop)
 exact goal
def wi8(S:zj5 X N' ixs scope)(hc:X.calm=true)(hi:PI X tg iter wi)(hin:∀cl C s H fp,PG (zh4 X N' scope cl C s H fp) tg g/\PTs (zh4 X N' scope cl C s H fp) ifs tc/\PE (zh4 X N' scope cl C s H fp) elt te)(hs:∀x,foldedSetIterable iter X.env x=pure x:=by intro _;rfl) :
 PE X (.ListComp elt [⟨tg,iter,ifs,0⟩] scope pos) (vk1 wi ixs g tc te):=by
 intro A3 s σ H Q I h;rw[eval_ListComp];refine wpAny_comprehension_free (use:=none) rfl hs (S.clos I) S.kind S.loc (thn (hi A3 s σ H _ I h) λv s1 h1=>thn h1 λitv s2 h2=>?_);obtain⟨it,fp,tn,J,H2,rfl,I2,T,st2,f2,hw⟩:=h2;refine yo6 (RR:=λacc C=>compPost (model X.prog X.w) X.A X.xe none (EP X A3 σ Q) acc C) S hc I2 T st2 f2 hin hw ?_;intro D C H' s' m hn hL hC hsz hcl hpn hfs I' q;refine⟨m,hn,λh' hs'=>⟨.ref D,H',?_,rfl,q⟩⟩;exact I'.turned (t':=s'.toks) (λb o hb e=>hs'.extBut b o hb e) hC hL (.inr hsz) hcl hpn
open H in
def wi5{i:Nat}{y:Str}(S:zj5 X N' ixs scope)(hc:X.calm=true)(hN:X.N.Nodup)(hi:X.N[i]?=some y)(hy:X.env.scope.names.lookup y=some .local)(hit:PI X tg iter wi)(hin:∀cl C s H fp,PG (zh4 X N' scope cl C s H fp) tg g/\PTs (zh4 X N' scope cl C s H fp) ifs tc/\PE (zh4 X N' scope cl C s H fp) elt te)(hsw:swapsWith (.ListComp elt [⟨tg,iter,ifs,0⟩] scope pos) (some (.Name y py)) spos.line X.env=pure true)(hs:∀x,foldedSetIterable iter X.env x=pure x:=by intro _;rfl) :
 PS X (.Assign [.Name y py] (.ListComp elt [⟨tg,iter,ifs,0⟩] scope pos) spos) (vm7 (vk1 wi ixs g tc te) (ve6 i)):=by
 intro A3 s σ H D I h;rw[exec_Assign_Name_used _ _ _ _ hsw];refine Aa1 (wpAny_standAt (Aa1 ?_));show wpAny _ X.A (do let _ <-comprehension (.ListComp elt [⟨tg,iter,ifs,0⟩] scope pos) scope X.env _ (newList []) false (eval iter X.env) (some (assign (.Name y py) X.env))) _ _ s;refine Aa1 (Ae1 (wpAny_comprehension_free (use:=some (assign (.Name y py) X.env)) (Q:=λ_ s'=>SP X A3 D .next s') rfl hs (S.clos I) S.kind S.loc (thn (hit A3 s σ H _ I h) λv s1 h1=>thn h1 λitv s2 h2=>?_)) (λ_ s' hq=>Ab1 (Ab1 hq)) λ_ _ e=>e);obtain⟨it,fp,tn,J,H2,rfl,I2,T,st2,f2,hw⟩:=h2;refine yo6 (Q:=λx H1=>ve6 i x σ H1 D.nx) (RR:=λacc C=>compPost (model X.prog X.w) X.A X.xe (some (assign (.Name y py) X.env)) (λ_ s'=>SP X A3 D .next s') acc C) S hc I2 T st2 f2 hin hw ?_;intro D' C H' s' m hn hL hC hsz hcl hpn hfs I' q;show wpAny _ X.A (assign (.Name y py) X.env (.ref D')) _ _ _;refine wpAny_assign_Name (yt5 (v:=V.ref D') I' hN hi (.inl hy) rfl (λs3 I3 hI103=>?_) (.inr hy));obtain⟨a,hsb,ha⟩:=hI103;have hCa:C≠a:=by
  rcases ha with rfl | ha
  ·exact hL
  ·exact λz=>hcl y a ha z.symm
 refine⟨m,hn.sameBut hsb hCa,λh' hs'=>⟨_,H',?_,q⟩⟩;exact I3.turned (t':=s3.toks) (λb o hb e=>hs'.extBut b o hb e) hC hL (.inr hsz) hcl hpn
end
inductive D where
 | non | bl (b:Bool) | int (i:Int) | str (x:Str) | tup (l:List D) | lst (l:List D) | dct (ks vs:List D) | fl (l:List D)
def vg0:Key->D
 | .inl i=>.int i
 | .inr x=>.str x
def wv9(k:List Key):D:=.tup (k.map vg0)
mutual
def Is(K:PySem.W.Frag)(A:Addr->Prop)(H:Hp):D->V->Prop
 | .non,v=>v=.non
 | .bl b,v=>v=.bl b
 | .int i,v=>v=.int i
 | .str x,v=>v=.str x
 | .tup l,v=>∃a vs,v=.ref a/\H a=some (.tup vs)/\IsL K A H l vs
 | .lst l,v=>∃a vs,v=.ref a/\A a/\H a=some (.lst vs)/\IsL K A H l vs
 | .dct ks l,v=>∃a vs,v=.ref a/\A a/\IsL K A H l vs/\
  ((∃kk:List Key,ks=kk.map vg0/\kk.length=vs.length/\H a=some (.dK (kk.zip vs)))\/(∃kk:List (List Key),ks=D.non::kk.map wv9/\kk.length=vs.length/\H a=some (.dT (kk.zip vs))))
 | .fl l,v=>∃a o vs,v=.ref a/\H a=some (.frz o (.lst vs))/\IsL K A H l vs
def IsL(K:PySem.W.Frag)(A:Addr->Prop)(H:Hp):List D->List V->Prop
 | [],vs=>vs=[]
 | d::l,vs=>∃v r,vs=v::r/\Is K A H d v/\IsL K A H l r
end
def uf4(o:HO):Prop:=(∃u,o=.tup u)\/∃ob u,o=.frz ob u
structure ww5(A A':Addr->Prop)(H H':Hp):Prop where
 sty:∀b o,H b=some o->uf4 o->H' b=some o
 nod:∀b o,A b->H b=some o->A' b/\H' b=some o
section
variable{K:PySem.W.Frag}{A A':Addr->Prop}{H H':Hp}
def ww5.tup(k:ww5 A A' H H')(b:Addr)(u:List V)(h:H b=some (.tup u)):H' b=some (.tup u):=k.sty b _ h (.inl ⟨_,rfl⟩)
def ww5.frz(k:ww5 A A' H H')(b:Addr)(o:Obj)(u:HO)(h:H b=some (.frz o u)):H' b=some (.frz o u):=k.sty b _ h (.inr ⟨_,_,rfl⟩)
mutual
theorem Is.mono(k:ww5 A A' H H'):∀{d:D} {v:V},Is K A H d v->Is K A' H' d v
 | .non,_,h=>h
 | .bl _,_,h=>h
 | .int _,_,h=>h
 | .str _,_,h=>h
 | .tup l,v,h=>by
   unfold Is at h ⊢;obtain⟨a,vs,e,q,i⟩:=h;exact⟨a,vs,e,k.tup a vs q,IsL.mono k i⟩
 | .lst l,v,h=>by
   unfold Is at h ⊢;obtain⟨a,vs,e,n,q,i⟩:=h;exact⟨a,vs,e,(k.nod a _ n q).1,(k.nod a _ n q).2,IsL.mono k i⟩
 | .dct ks l,v,h=>by
   unfold Is at h ⊢;obtain⟨a,vs,e,n,i,q⟩:=h;refine⟨a,vs,e,?_,IsL.mono k i,?_⟩
   ·rcases q with⟨_,_,_,q⟩ | ⟨_,_,_,q⟩<;>exact(k.nod a _ n q).1
   ·rcases q with⟨kk,e1,e2,q⟩ | ⟨kk,e1,e2,q⟩
    ·exact .inl ⟨kk,e1,e2,(k.nod a _ n q).2⟩
    ·exact .inr ⟨kk,e1,e2,(k.nod a _ n q).2⟩
 | .fl l,v,h=>by
   unfold Is at h ⊢;obtain⟨a,o,vs,e,q,i⟩:=h;exact⟨a,o,vs,e,k.frz a o _ q,IsL.mono k i⟩
theorem IsL.mono(k:ww5 A A' H H'):∀{l:List D} {vs:List V},IsL K A H l vs->IsL K A' H' l vs
 | [],_,h=>h
 | d::l,vs,h=>by
   unfold IsL at h ⊢;obtain⟨v,r,e,i,j⟩:=h;exact⟨v,r,e,Is.mono k i,IsL.mono k j⟩
end
def IsL.nil:IsL K A H [] vs↔vs=[]:=by unfold IsL;rfl
def IsL.cons{d:D}{l:List D}{vs:List V}:IsL K A H (d::l) vs↔∃v r,vs=v::r/\Is K A H d v/\IsL K A H l r:=by conv=>lhs;unfold IsL
theorem IsL.length:∀{l:List D} {vs:List V},IsL K A H l vs->l.length=vs.length
 | [],vs,h=>by rw[IsL.nil.mp h];rfl
 | d::l,vs,h=>by
   obtain⟨v,r,e,_,j⟩:=IsL.cons.mp h;rw[e,Au0,Au0,IsL.length j]
theorem IsL.get:∀{l:List D} {vs:List V} {i:Nat} {d:D},IsL K A H l vs->l[i]?=some d->∃v,vs[i]?=some v/\Is K A H d v
 | [],_,_,_,_,e=>by simp at e
 | x::l,vs,0,d,h,e=>by
   obtain⟨v,r,e',i,_⟩:=IsL.cons.mp h;simp at e;subst e e';exact⟨v,rfl,i⟩
 | x::l,vs,i+1,d,h,e=>by
   obtain⟨v,r,e',_,j⟩:=IsL.cons.mp h;subst e';simpa using IsL.get (i:=i) j (by simpa using e)
theorem IsL.append:∀{l m:List D} {vs us:List V},IsL K A H l vs->IsL K A H m us->IsL K A H (l++m) (vs++us)
 | [],m,vs,us,h,g=>by rw[IsL.nil.mp h];exact g
 | d::l,m,vs,us,h,g=>by
   obtain⟨v,r,e,i,j⟩:=IsL.cons.mp h;subst e;exact IsL.cons.mpr ⟨v,r++us,rfl,i,IsL.append j g⟩
def IsL.one{d:D}{v:V}(h:Is K A H d v):IsL K A H [d] [v]:=IsL.cons.mpr ⟨v,[],rfl,h,IsL.nil.mpr rfl⟩
theorem IsL.take:∀{l:List D} {vs:List V} (n:Nat),IsL K A H l vs->IsL K A H (l.take n) (vs.take n)
 | _,_,0,_=>by simp only[List.take_zero];exact IsL.nil.mpr rfl
 | [],vs,n+1,h=>by rw[IsL.nil.mp h];simp only[List.take_nil];exact IsL.nil.mpr rfl
 | d::l,vs,n+1,h=>by
   obtain⟨v,r,e,i,j⟩:=IsL.cons.mp h;subst e;exact IsL.cons.mpr ⟨v,r.take n,rfl,i,IsL.take n j⟩
theorem IsL.drop:∀{l:List D} {vs:List V} (n:Nat),IsL K A H l vs->IsL K A H (l.drop n) (vs.drop n)
 | _,_,0,h=>by simpa only[List.drop_zero] using h
 | [],vs,n+1,h=>by rw[IsL.nil.mp h];simp only[List.drop_nil];exact IsL.nil.mpr rfl
 | d::l,vs,n+1,h=>by
   obtain⟨v,r,e,i,j⟩:=IsL.cons.mp h;subst e;exact IsL.drop n j
theorem IsL.reverse:∀{l:List D} {vs:List V},IsL K A H l vs->IsL K A H l.reverse vs.reverse
 | [],vs,h=>by rw[IsL.nil.mp h];exact IsL.nil.mpr rfl
 | d::l,vs,h=>by
   obtain⟨v,r,e,i,j⟩:=IsL.cons.mp h;subst e;rw[List.reverse_cons,List.reverse_cons];exact IsL.append (IsL.reverse j) (IsL.one i)
theorem IsL.set:∀{l:List D} {vs:List V} (n:Nat) {d:D} {v:V},IsL K A H l vs->Is K A H d v->IsL K A H (l.set n d) (vs.set n v)
 | [],vs,n,d,v,h,_=>by rw[IsL.nil.mp h];simp only[List.set_nil];exact IsL.nil.mpr rfl
 | x::l,vs,0,d,v,h,g=>by
   obtain⟨w,r,e,i,j⟩:=IsL.cons.mp h;subst e;exact IsL.cons.mpr ⟨v,r,rfl,g,j⟩
 | x::l,vs,n+1,d,v,h,g=>by
   obtain⟨w,r,e,i,j⟩:=IsL.cons.mp h;subst e;exact IsL.cons.mpr ⟨w,r.set n v,rfl,i,IsL.set n j g⟩
end
mutual
def D.imm:D->Bool
 | .tup l=>D.immL l
 | .lst _=>false
 | .dct _ _=>false
 | .fl l=>D.immL l
 | _=>true
def D.immL:List D->Bool
 | []=>true
 | d::l=>D.imm d&&D.immL l
end
section
variable{K:PySem.W.Frag}{A A':Addr->Prop}{H:Hp}
mutual
theorem Is.ofImm:∀{d:D} {v:V},d.imm=true->Is K A H d v->Is K A' H d v
 | .non,_,_,h=>h
 | .bl _,_,_,h=>h
 | .int _,_,_,h=>h
 | .str _,_,_,h=>h
 | .tup l,v,m,h=>by
   unfold Is at h ⊢;obtain⟨a,vs,e,q,i⟩:=h;exact⟨a,vs,e,q,IsL.ofImm (by simpa [D.imm] using m) i⟩
 | .lst l,v,m,_=>by simp[D.imm] at m
 | .dct _ l,v,m,_=>by simp[D.imm] at m
 | .fl l,v,m,h=>by
   unfold Is at h ⊢;obtain⟨a,o,vs,e,q,i⟩:=h;exact⟨a,o,vs,e,q,IsL.ofImm (by simpa [D.imm] using m) i⟩
theorem IsL.ofImm:∀{l:List D} {vs:List V},D.immL l=true->IsL K A H l vs->IsL K A' H l vs
 | [],_,_,h=>h
 | d::l,vs,m,h=>by
   have m':d.imm=true/\D.immL l=true:=by simpa [D.immL] using m
   unfold IsL at h ⊢;obtain⟨v,r,e,i,j⟩:=h;exact⟨v,r,e,Is.ofImm m'.1 i,IsL.ofImm m'.2 j⟩
end
def Is.tup{a:Addr}{vs:List V}{l:List D}(h:H a=some (.tup vs))(i:IsL K A H l vs):Is K A H (.tup l) (.ref a):=by
 unfold Is;exact⟨a,vs,rfl,h,i⟩
def Is.lst{a:Addr}{vs:List V}{l:List D}(n:A a)(h:H a=some (.lst vs))(i:IsL K A H l vs):Is K A H (.lst l) (.ref a):=by
 unfold Is;exact⟨a,vs,rfl,n,h,i⟩
def Is.int_iff{i:Int}:Is K A H (.int i) v↔v=.int i:=by unfold Is;rfl
def Is.bl_iff{i:Bool}:Is K A H (.bl i) v↔v=.bl i:=by unfold Is;rfl
def Is.str_iff{i:Str}:Is K A H (.str i) v↔v=.str i:=by unfold Is;rfl
def Is.non_iff:Is K A H .non v↔v=.non:=by unfold Is;rfl
def Is.tup_iff:Is K A H (.tup l) v↔∃a vs,v=.ref a/\H a=some (.tup vs)/\IsL K A H l vs:=by conv=>lhs;unfold Is
def Is.tup_sq(h:Is K A H (.tup l) v):∃a vs,v=.ref a/\SqT K H a vs/\IsL K A H l vs:=let ⟨a,vs,e,s,i⟩:=Is.tup_iff.mp h;⟨a,vs,e,.of s,i⟩
def Is.lst_iff:Is K A H (.lst l) v↔∃a vs,v=.ref a/\A a/\H a=some (.lst vs)/\IsL K A H l vs:=by conv=>lhs;unfold Is
def Is.fl_iff:Is K A H (.fl l) v↔∃a o vs,v=.ref a/\H a=some (.frz o (.lst vs))/\IsL K A H l vs:=by conv=>lhs;unfold Is
def Is.dct_iff:Is K A H (.dct ks l) v↔∃a vs,v=.ref a/\A a/\IsL K A H l vs/\
 ((∃kk:List Key,ks=kk.map vg0/\kk.length=vs.length/\H a=some (.dK (kk.zip vs)))\/(∃kk:List (List Key),ks=D.non::kk.map wv9/\kk.length=vs.length/\H a=some (.dT (kk.zip vs)))):=by conv=>lhs;unfold Is
end
structure Exn where
 cls:Str
 args:List D
inductive Res(S α:Type) where
 | ok (a:α) (st:S) | exc (x:Exn) (st:S) | bad
variable{S α β γ:Type}
def Res.bind(r:Res S α)(k:α->S->Res S β):Res S β:=match r with
 | .ok a st=>k a st
 | .exc x st=>.exc x st
 | .bad=>.bad
def wpR(r:Res S α)(Q:α->S->Prop)(E:Exn->S->Prop):Prop:=match r with
 | .ok a st=>Q a st
 | .exc x st=>E x st
 | .bad=>False
def za4:wpR (r.bind k) Q E↔wpR r (λa st=>wpR (k a st) Q E) E:=by
 cases r<;>rfl
theorem za8{r:Res S α}{Q Q':α->S->Prop}{E E':Exn->S->Prop}(h:wpR r Q E)(hQ:∀a st,Q a st->Q' a st)(hE:∀x st,E x st->E' x st):wpR r Q' E':=by
 cases r with
 | ok a st=>exact hQ a st h
 | exc x st=>exact hE x st h
 | bad=>exact h.elim
def ww7(o:Option α)(st:S):Res S α:=match o with
 | some a=>.ok a st
 | none=>.bad
theorem zb4{o:Option α}{st:S}{Q:α->S->Prop}{E:Exn->S->Prop}:wpR (ww7 o st) Q E↔∃a,o=some a/\Q a st:=by
 cases o with
 | none=>constructor
         ·intro h;exact h.elim
         ·rintro ⟨a,e,_⟩;cases e
 | some a=>constructor
           ·intro h;exact⟨a,rfl,h⟩
           ·rintro ⟨b,e,q⟩;cases e;exact q
@[simp] theorem Res.bind_ok (a:α) (st:S) (k:α->S->Res S β):(Res.ok a st).bind k=k a st:=rfl
structure Wd(S:Type) where
 ok:S->Hp->Prop
 mv:Addr->Prop
 h:V
 stay:∀st H H',ok st H->(∀b o,mv b->H b=some o->H' b=some o)->ok st H'
 live:∀st H b,ok st H->mv b->∃o,H b=some o/\(∀u,o≠.tup u)/\∀ob u,o≠.frz ob u
def W0:Wd Unit:=⟨λ_ _=>True,λ_=>False,.non,λ_ _ _ h _=>h,λ_ _ _ _ h=>h.elim⟩
inductive Sl where
 | no | bor (d:D) | own (d:D) | hnd
abbrev Rho:=List Sl
structure Dx{S:Type}(W:Wd S) where
 K:PySem.W.Frag
 H0:Hp
 Ex:Exn->S->Hp->Prop
 /-- addresses that no tree holds (a comprehension's list while it grows) -/
 av:Addr->Prop
def Ext{S:Type}(W:Wd S)(H H':Hp):Prop:=∀b o,H b=some o->¬W.mv b->H' b=some o
def Ext.refl{S:Type}{W:Wd S}{H:Hp}:Ext W H H:=λ_ _ h _=>h
def Ext.trans{S:Type}{W:Wd S}{H H1 H2:Hp}(a:Ext W H H1)(b:Ext W H1 H2):Ext W H H2:=λc o h n=>b c o (a c o h n) n
def Ext.laid{S:Type}{W:Wd S}{H:Hp}{p:Addr}{o:HO}(h:H p=none):Ext W H (upd H p o):=λb u e _=>by rw[za9 (zb1 e h)];exact e
def wx4.ext{S:Type}{W:Wd S}{H H':Hp}(h:wx4 H H'):Ext W H H':=λb o e _=>h b o e
def Ow(σ:St)(ρ:Rho)(b:Addr):Prop:=∃(i:Nat) (d:D),ρ[i]?=some (Sl.own d)/\σ[i]?=some (some (V.ref b))
def Av{S:Type}{W:Wd S}(c:Dx W)(σ:St)(ρ:Rho)(b:Addr):Prop:=¬W.mv b/\¬Ow σ ρ b/\¬c.av b
def Top(K:PySem.W.Frag)(A:Addr->Prop)(H:Hp)(d:D)(a:Addr):Prop:=match d with
 | .lst l=>∃vs,H a=some (.lst vs)/\IsL K A H l vs
 | .dct ks l=>∃vs,IsL K A H l vs/\((∃kk:List Key,ks=kk.map vg0/\kk.length=vs.length/\H a=some (.dK (kk.zip vs)))\/(∃kk:List (List Key),ks=D.non::kk.map wv9/\kk.length=vs.length/\H a=some (.dT (kk.zip vs))))
 | _=>False
def wg1{S:Type}{W:Wd S}(c:Dx W)(H:Hp)(A:Addr->Prop)(ov:Option V):Sl->Prop
 | .no=>True
 | .bor d=>∃v,ov=some v/\Is c.K A H d v
 | .own d=>∃a,ov=some (.ref a)/\(¬W.mv a/\¬c.av a)/\c.H0 a=none/\Top c.K A H d a
 | .hnd=>ov=some W.h
structure Rep{S:Type}{W:Wd S}(c:Dx W)(H:Hp)(σ:St)(ρ:Rho):Prop where
 len:σ.length=ρ.length
 frame:∀b o,c.H0 b=some o->¬W.mv b->H b=some o
 slot:∀(i:Nat) (s:Sl),ρ[i]?=some s->wg1 c H (Av c σ ρ) (σ[i]?).join s
 avl:∀b,c.av b->¬W.mv b/\c.H0 b=none/\∃o,H b=some o/\(∀u,o≠.tup u)/\∀ob u,o≠.frz ob u
 uniq:∀(i j:Nat) (a:Addr) (d e:D),ρ[i]?=some (.own d)->ρ[j]?=some (.own e)->σ[i]?=some (some (.ref a))->σ[j]?=some (some (.ref a))->i=j
section
variable{S:Type}{W:Wd S}{c:Dx W}{H H':Hp}{σ:St}{ρ:Rho}{A A':Addr->Prop}
theorem Top.isTop(n:A a)(h:Top c.K A H d a):Is c.K A H d (.ref a):=by
 cases d with
 | lst l=>obtain⟨vs,e,i⟩:=h;exact Is.lst n e i
 | dct ks l=>obtain⟨vs,i,q⟩:=h;exact Is.dct_iff.mpr ⟨a,vs,rfl,n,i,q⟩
 | _=>exact h.elim
theorem Top.there(h:Top c.K A H d a):∃o,H a=some o/\(∀u,o≠.tup u)/\∀ob u,o≠.frz ob u:=by
 cases d with
 | lst l=>obtain⟨vs,e,i⟩:=h;exact⟨_,e,(λu z=>by cases z),(λob u z=>by cases z)⟩
 | dct ks l=>
   obtain⟨vs,i,⟨_,_,_,q⟩ | ⟨_,_,_,q⟩⟩:=h
   ·exact⟨_,q,(λu z=>by cases z),(λob u z=>by cases z)⟩
   ·exact⟨_,q,(λu z=>by cases z),(λob u z=>by cases z)⟩
 | _=>exact h.elim
theorem Top.mono{d:D}{a:Addr}(k:ww5 A A' H H')(e:∀o,H a=some o->H' a=some o)(h:Top c.K A H d a):Top c.K A' H' d a:=by
 cases d with
 | lst l=>obtain⟨vs,q,i⟩:=h;exact⟨vs,e _ q,i.mono k⟩
 | dct ks l=>
   obtain⟨vs,i,⟨kk,e1,e2,q⟩ | ⟨kk,e1,e2,q⟩⟩:=h
   ·exact⟨vs,i.mono k,.inl ⟨kk,e1,e2,e _ q⟩⟩
   ·exact⟨vs,i.mono k,.inr ⟨kk,e1,e2,e _ q⟩⟩
 | _=>exact h.elim
def Rep.owOk(R:Rep c H σ ρ)(h:Ow σ ρ b):¬W.mv b/\c.H0 b=none/\∃o,H b=some o/\(∀u,o≠.tup u)/\∀ob u,o≠.frz ob u:=by
 obtain⟨i,d,e1,e2⟩:=h;obtain⟨a,e,n,f,t⟩:=R.slot i _ e1;rw[e2] at e;have e:some (V.ref b)=some (V.ref a):=e;cases e;exact⟨n.1,f,t.there⟩
def zj3(ht:∀b o,H b=some o->(∃u,o=.tup u)\/(∃ob u,o=.frz ob u)->H' b=some o)(hn:∀b o,A b->H b=some o->A' b/\H' b=some o):ww5 A A' H H':=
 ⟨ht,hn⟩
def Ext.keepT{st:S}(e:Ext W H H')(ok:W.ok st H)(hA:∀b,A b->¬W.mv b/\A' b):ww5 A A' H H':=
 zj3 (λb o h t=>e b o h λm=>by
  obtain⟨o',h',n1,n2⟩:=W.live st H b ok m;rw[h] at h';cases h';rcases t with⟨u,z⟩ | ⟨ob,u,z⟩
  ·exact n1 u z
  ·exact n2 ob u z) λb o a h=>⟨(hA b a).2,e b o h (hA b a).1⟩
def Rep.ext{st:S}(R:Rep c H σ ρ)(ok:W.ok st H)(e:Ext W H H'):Rep c H' σ ρ where
 len:=R.len
 frame:=λb o h n=>e b o (R.frame b o h n) n
 avl:=λb h=>let ⟨n,z,o,h',q⟩:=R.avl b h;⟨n,z,o,e b o h' n,q⟩
 uniq:=R.uniq
 slot:=λi s h=>by
  have k:ww5 (Av c σ ρ) (Av c σ ρ) H H':=e.keepT ok λb a=>⟨a.1,a⟩
  have q:=R.slot i s h;cases s with
  | no=>trivial
  | bor d=>obtain⟨v,e1,i1⟩:=q;exact⟨v,e1,i1.mono k⟩
  | own d=>obtain⟨a,e1,n,f,t⟩:=q;exact⟨a,e1,n,f,t.mono k λo z=>e a o z n.1⟩
  | hnd=>exact q
end
def D.mut:D->Bool
 | .lst _=>true
 | .dct _ _=>true
 | _=>false
inductive Gr where
 | R | B | F
def Val{S:Type}{W:Wd S}(c:Dx W)(g:Gr)(σ:St)(ρ:Rho)(H H':Hp)(d:D)(v:V):Prop:=match g with
 | .R=>Is c.K (λb=>¬W.mv b) H' d v
 | .B=>Is c.K (Av c σ ρ) H' d v
 | .F=>Is c.K (Av c σ ρ) H' d v/\∀a,v=.ref a->d.mut=true->H a=none
section
variable{S:Type}{W:Wd S}{c:Dx W}{H H1 H':Hp}{σ:St}{ρ:Rho}{d:D}{v:V}{g:Gr}
theorem Val.toR(h:Val c g σ ρ H H' d v):Val c .R σ ρ H H' d v:=by
 have k:ww5 (Av c σ ρ) (λb=>¬W.mv b) H' H':=⟨λ_ _ z _=>z,λb o a z=>⟨a.1,z⟩⟩;cases g with
 | R=>exact h
 | B=>exact Is.mono k h
 | F=>exact Is.mono k h.1
def Val.toB(h:Val c .F σ ρ H H' d v):Val c .B σ ρ H H' d v:=h.1
end
abbrev Fn(S:Type):=Rho->S->Res S D
def tD{S:Type}{W:Wd S}(c:Dx W)(g:Gr)(f:Fn S):TE:=λσ H Q=>∃ρ st,Rep c H σ ρ/\W.ok st H/\
 wpR (f ρ st) (λd st'=>∀v H',Ext W H H'->W.ok st' H'->Val c g σ ρ H H' d v->Q v H') λx st'=>∀H',Ext W H H'->W.ok st' H'->c.Ex x st' H'
def DE(X:Cx){S:Type}{W:Wd S}(c:Dx W)(g:Gr)(e:Expr)(f:Fn S):Prop:=PE X e (tD c g f)
def PE.imp{X:Cx}{e:Expr}{t t':TE}(h:PE X e t)(i:∀σ H Q,t' σ H Q->t σ H Q):PE X e t':=λA3 s σ H Q I q=>h A3 s σ H Q I (i σ H Q q)
def PT.imp{X:Cx}{e:Expr}{t t':TT}(h:PT X e t)(i:∀σ H Q,t' σ H Q->t σ H Q):PT X e t':=λA3 s σ H Q I q=>h A3 s σ H Q I (i σ H Q q)
def PS.imp{X:Cx}{e:Stmt}{t t':TS}(h:PS X e t)(i:∀D σ H,t' D σ H->t D σ H):PS X e t':=λA3 s σ H D I q=>h A3 s σ H D I (i D σ H q)
def PSs.imp{X:Cx}{e:List Stmt}{t t':TS}(h:PSs X e t)(i:∀D σ H,t' D σ H->t D σ H):PSs X e t':=λA3 s σ H D I q=>h A3 s σ H D I (i D σ H q)
section
variable{X:Cx}{S:Type}{W:Wd S}{c:Dx W}{g:Gr}{e:Expr}{f:Fn S}
def DE.weak(h:DE X c g e f):DE X c .R e f:=h.imp λσ H Q ⟨ρ,st,R,ok,w⟩=>⟨ρ,st,R,ok,za8 w (λd st' q v H' x y z=>q v H' x y z.toR) λ_ _ q=>q⟩
end
end L2
namespace L2
def Go{S:Type}{W:Wd S}(c:Dx W)(g:Gr)(σ:St)(f:Fn S)(H:Hp)(Q:VK)(ρ:Rho)(st:S):Prop:=
 wpR (f ρ st) (λd st'=>∀v H',Ext W H H'->W.ok st' H'->Val c g σ ρ H H' d v->Q v H') λx st'=>∀H',Ext W H H'->W.ok st' H'->c.Ex x st' H'
section
variable{S:Type}{W:Wd S}{c:Dx W}{H H1 H':Hp}{σ:St}{ρ:Rho}{d:D}{v:V}{g g':Gr}{st st1:S}
theorem Ext.none(e:Ext W H H1)(ok:W.ok st H1){a:Addr}(h:H1 a=none):H a=none:=by
 cases q:H a with
 | none=>rfl
 | some o=>
   have n:¬W.mv a:=λm=>by obtain⟨o',h',_⟩:=W.live st H1 a ok m;rw[h] at h';cases h'
   rw[e a o q n] at h;cases h
theorem Val.back(e:Ext W H H1)(ok:W.ok st H1)(h:Val c g σ ρ H1 H' d v):Val c g σ ρ H H' d v:=by
 cases g with
 | R=>exact h
 | B=>exact h
 | F=>exact⟨h.1,λa ea m=>e.none ok (h.2 a ea m)⟩
def Val.ext(e:Ext W H' H1)(ok:W.ok st H')(h:Val c .R σ ρ H H' d v):Val c .R σ ρ H H1 d v:=Is.mono (e.keepT ok λb n=>⟨n,n⟩) h
def Is.ext{A:Addr->Prop}(e:Ext W H' H1)(ok:W.ok st H')(hA:∀b,A b->¬W.mv b)(h:Is c.K A H' d v):Is c.K A H1 d v:=Is.mono (e.keepT ok λb n=>⟨hA b n,n⟩) h
def IsL.ext{A:Addr->Prop}{l:List D}{vs:List V}(e:Ext W H' H1)(ok:W.ok st H')(hA:∀b,A b->¬W.mv b)(h:IsL c.K A H' l vs):IsL c.K A H1 l vs:=IsL.mono (e.keepT ok λb n=>⟨hA b n,n⟩) h
def Go.from{f:Fn S}{Q:VK}(e:Ext W H H1)(ok:W.ok st1 H1)(h:Go c g σ f H Q ρ st):Go c g σ f H1 Q ρ st:=
 za8 h (λd st' q v H' a b z=>q v H' (e.trans a) b (z.back e ok)) λx st' q H' a b=>q H' (e.trans a) b
def Go.bind{f:Fn S}{k:D->Fn S}{Q:VK}(R:Rep c H σ ρ)(ok:W.ok st H)(h:Go c g σ (λρ st=>(f ρ st).bind λd st1=>k d ρ st1) H Q ρ st) :
 tD c g' f σ H λv H1=>∃d st1,Rep c H1 σ ρ/\W.ok st1 H1/\Ext W H H1/\Val c g' σ ρ H H1 d v/\Go c g σ (k d) H1 Q ρ st1:=by
 refine⟨ρ,st,R,ok,?_⟩;have h':=za4.mp h;refine za8 h' (λd st1 q v H1 e ok1 z=>?_) λx st1 q=>q
 exact⟨d,st1,R.ext ok e,ok1,e,z,za8 q (λd' st' q v' H' a b y=>q v' H' (e.trans a) b (y.back e ok1)) λx st' q H' a b=>q H' (e.trans a) b⟩
def Go.done(h:Go c g σ (λ_ st=>ww7 o st) H Q ρ st)(ok:W.ok st H):∃d,o=some d/\∀v H',Ext W H H'->W.ok st H'->Val c g σ ρ H H' d v->Q v H':=by
 obtain⟨d,e,q⟩:=zb4.mp h;exact⟨d,e,q⟩
def New{S:Type}{W:Wd S}(c:Dx W)(H H':Hp)(d:D)(v:V):Prop:=Is c.K (λb=>¬W.mv b/\H b=none) H' d v
theorem New.valF(R:Rep c H σ ρ)(h:New c H H' d v):Val c .F σ ρ H H' d v:=by
 have k:ww5 (λb=>¬W.mv b/\H b=Option.none) (Av c σ ρ) H' H':=⟨λ_ _ z _=>z,λb o a z=>⟨⟨a.1,(λw=>by
  obtain⟨_,_,o',h',_⟩:=R.owOk w;rw[a.2] at h';cases h'),λw=>by
  obtain⟨_,_,o',h',_⟩:=R.avl b w;rw[a.2] at h';cases h'⟩,z⟩⟩
 refine⟨Is.mono k h,λa ea m=>?_⟩;subst ea;cases d with
 | lst l=>obtain⟨b,vs,e,n,_⟩:=Is.lst_iff.mp h;cases e;exact n.2
 | dct ks l=>obtain⟨b,vs,e,n,_⟩:=Is.dct_iff.mp h;cases e;exact n.2
 | _=>simp[D.mut] at m
theorem New.val(R:Rep c H σ ρ)(h:New c H H' d v)(g:Gr):Val c g σ ρ H H' d v:=by
 cases g with
 | R=>exact(h.valF R).toR
 | B=>exact(h.valF R).toB
 | F=>exact h.valF R
def New.imm(m:d.imm=true)(h:Is c.K A H' d v):New c H H' d v:=Is.ofImm m h
def zg7(ok:W.ok st H)(h:H p=none):W.ok st (upd H p o):=W.stay st H _ ok λb u _ e=>by rw[za9 (zb1 e h)];exact e
def zn7{p:Addr}(ok:W.ok st H)(h:H p=none):¬W.mv p:=λm=>by
 obtain⟨o',h',_⟩:=W.live st H p ok m;rw[h] at h';cases h'
def New.tup{p:Addr}{l:List D}{vs:List V}{A:Addr->Prop}(ok:W.ok st H)(h:H p=none)(hA:∀b,A b->¬W.mv b)(m:D.immL l=true)(i:IsL c.K A H l vs):New c H (upd H p (.tup vs)) (.tup l) (.ref p):=
 Is.tup zb3 (IsL.ofImm m (i.ext (Ext.laid h) ok hA))
def New.lst{p:Addr}{l:List D}{vs:List V}{A:Addr->Prop}(ok:W.ok st H)(h:H p=none)(hA:∀b,A b->¬W.mv b)(m:D.immL l=true)(i:IsL c.K A H l vs):New c H (upd H p (.lst vs)) (.lst l) (.ref p):=
 Is.lst ⟨zn7 ok h,h⟩ zb3 (IsL.ofImm m (i.ext (Ext.laid h) ok hA))
end
section
variable{X:Cx}{S:Type}{W:Wd S}{c:Dx W}{g:Gr}
def fC(S:Type)(d:D):Fn S:=λ_ st=>.ok d st
def wt9{i j pos}:DE X c g (.Constant (.int i) j pos) (fC S (.int i)):=zh3.imp λσ H Q ⟨ρ,st,R,ok,w⟩=>w _ _ Ext.refl ok (New.val R (show New c H H (.int _) (.int _) from Is.int_iff.mpr rfl) g)
def vy0{i j pos}:DE X c g (.Constant (.bool i) j pos) (fC S (.bl i)):=vv2.imp λσ H Q ⟨ρ,st,R,ok,w⟩=>w _ _ Ext.refl ok (New.val R (show New c H H (.bl _) (.bl _) from Is.bl_iff.mpr rfl) g)
def wt8{j pos}:DE X c g (.Constant .none j pos) (fC S .non):=yu7.imp λσ H Q ⟨ρ,st,R,ok,w⟩=>w _ _ Ext.refl ok (New.val R (show New c H H .non .non from Is.non_iff.mpr rfl) g)
def wt6{x j pos}:DE X c g (.Constant (.str x) j pos) (fC S (.str x)):=zo9.imp λσ H Q ⟨ρ,st,R,ok,w⟩=>w _ _ Ext.refl ok (New.val R (show New c H H (.str _) (.str _) from Is.str_iff.mpr rfl) g)
def rd(ρ:Rho)(i:Nat):Option D:=match ρ[i]? with
 | some (.bor d)=>some d
 | some (.own d)=>some d
 | _=>none
def kp(ρ:Rho)(i:Nat):Option D:=match ρ[i]? with
 | some (.bor d)=>some d
 | _=>none
def im(o:Option D):Option D:=o.bind λd=>if d.imm=true then some d else none
def fV(S:Type)(i:Nat):Fn S:=λρ st=>ww7 (rd ρ i) st
def fVk(S:Type)(i:Nat):Fn S:=λρ st=>ww7 (kp ρ i) st
theorem Rep.rd{H:Hp}{σ:St}{ρ:Rho}{i:Nat}{d:D}(R:Rep c H σ ρ)(h:L2.rd ρ i=some d):∃v,σ[i]?=some (some v)/\Is c.K (λb=>¬W.mv b) H d v:=by
 unfold L2.rd at h;have jn:∀{o:Option (Option V)} {v:V},o.join=some v->o=some (some v):=λ{o v} e=>by cases o with
  | none=>cases e
  | some a=>rw[show a=some v from e]
 cases q:ρ[i]? with
 | none=>rw[q] at h;cases h
 | some s=>
   rw[q] at h;have z:=R.slot i s q;cases s with
   | no=>cases h
   | hnd=>cases h
   | bor e=>
     cases h;obtain⟨v,e1,i1⟩:=z;exact⟨v,jn e1,i1.mono ⟨λ_ _ z _=>z,λb o a z=>⟨a.1,z⟩⟩⟩
   | own e=>
     cases h;obtain⟨a,e1,n,f,t⟩:=z;exact⟨_,jn e1,(t.mono (A':=λb=>¬W.mv b) ⟨λ_ _ z _=>z,λb o a z=>⟨a.1,z⟩⟩ λo z=>z).isTop n.1⟩
theorem Rep.kp{H:Hp}{σ:St}{ρ:Rho}{i:Nat}{d:D}(R:Rep c H σ ρ)(h:L2.kp ρ i=some d):∃v,σ[i]?=some (some v)/\Is c.K (Av c σ ρ) H d v:=by
 unfold L2.kp at h;cases q:ρ[i]? with
 | none=>rw[q] at h;cases h
 | some s=>
   rw[q] at h;have z:=R.slot i s q;cases s with
   | no=>cases h
   | hnd=>cases h
   | own e=>cases h
   | bor e=>
     cases h;obtain⟨v,e1,i1⟩:=z;refine⟨v,?_,i1⟩;cases w:σ[i]? with
     | none=>rw[w] at e1;cases e1
     | some a=>rw[w] at e1;rw[show a=some v from e1]
def wt5{i:Nat}{x:Str}{pos:Pos}(h:PE X (.Name x pos) (vb2 i)):DE X c .R (.Name x pos) (fV S i):=h.imp λσ H Q hI3=>by
 obtain⟨ρ,st,R,ok,w⟩:=hI3;obtain⟨d,e,q⟩:=zb4.mp w;obtain⟨v,e1,i1⟩:=R.rd e;exact⟨v,e1,q v H Ext.refl ok i1⟩
def ze7{i:Nat}{x:Str}{pos:Pos}(h:PE X (.Name x pos) (vb2 i)):DE X c .B (.Name x pos) (fVk S i):=h.imp λσ H Q hI4=>by
 obtain⟨ρ,st,R,ok,w⟩:=hI4;obtain⟨d,e,q⟩:=zb4.mp w;obtain⟨v,e1,i1⟩:=R.kp e;exact⟨v,e1,q v H Ext.refl ok i1⟩
def fI(S:Type)(f:Fn S):Fn S:=λρ st=>(f ρ st).bind λd st1=>if d.imm=true then .ok d st1 else .bad
def OpD{S:Type}{W:Wd S}(c:Dx W)(r:R2)(o:D->D->Option D):Prop:=∀d1 d2 v1 v2 H (st:S) d Q,W.ok st H->Is c.K (λb=>¬W.mv b) H d1 v1->Is c.K (λb=>¬W.mv b) H d2 v2->o d1 d2=some d->
 (∀v H',Ext W H H'->W.ok st H'->New c H H' d v->Q v H')->r v1 v2 H Q
def f2(S:Type)(o:D->D->Option D)(f1 f2:Fn S):Fn S:=λρ st=>(f1 ρ st).bind λd1 st1=>(f2 ρ st1).bind λd2 st2=>ww7 (o d1 d2) st2
def zh5(h:tD c g f σ H Q)(i:∀v H',Q v H'->Q' v H'):tD c g f σ H Q':=by
 obtain⟨ρ,st,R,ok,w⟩:=h;exact⟨ρ,st,R,ok,za8 w (λd st' q v H' a b z=>i v H' (q v H' a b z)) λx st' q=>q⟩
def vg3(hr:OpD c r o)(h:tD c g (f2 S o fa fb) σ H Q):tOp r (tD c ga fa) (tD c gb fb) σ H Q:=by
 obtain⟨ρ,st,R,ok,w⟩:=h;have w:Go c g σ (λρ st=>(fa ρ st).bind λd1 st1=>(λρ st1=>(fb ρ st1).bind λd2 st2=>ww7 (o d1 d2) st2) ρ st1) H Q ρ st:=w;refine zh5 (Go.bind (g':=ga) R ok w) λv1 H1 hI104=>?_
 obtain⟨d1,st1,R1,ok1,e1,z1,w1⟩:=hI104;refine zh5 (Go.bind (g':=gb) (f:=fb) (k:=λd2 _ st2=>ww7 (o d1 d2) st2) R1 ok1 w1) λv2 H2 hI105=>?_
 obtain⟨d2,st2,R2,ok2,e2,z2,w2⟩:=hI105;obtain⟨d,e,q⟩:=Go.done w2 ok2;exact hr d1 d2 v1 v2 H2 st2 d Q ok2 (z1.toR.ext e2 ok1) z2.toR e λv H' a b n=>q v H' a b (n.val R2 g)
def wx5{op:Operator}{r:R2}{o:D->D->Option D}{a b:Expr}{pos:Pos}{fa fb:Fn S}{ga gb:Gr}(ho:OpR X (binaryOp op) r)(hr:OpD c r o)(ha:DE X c ga a fa)(hb:DE X c gb b fb):DE X c g (.BinOp a op b pos) (f2 S o fa fb):=
 (wx6 ho ha hb).imp λσ H Q h=>vg3 hr h
def zl7(ho:OpR X (compareOp op) r)(hr:OpD c r o)(ha:DE X c ga a fa)(hb:DE X c gb b fb)(hm:behindInMarks op b=false):DE X c g (.Compare a [op] [b] pos) (f2 S o fa fb):=
 (wi9 ho ha hb hm).imp λσ H Q h=>vg3 hr h
def vp5{r:R2}{o:D->D->Option D}{a b:Expr}{pos:Pos}{fa fb:Fn S}{ga gb:Gr}(ho:IxR X r)(hr:OpD c r o)(ha:DE X c ga a fa)(hb:DE X c gb b fb)(hs:yl2 b):DE X c g (.Subscript a b pos) (f2 S o fa fb):=
 (vg4 ho ha hb hs).imp λσ H Q h=>vg3 hr h
abbrev FnT(S:Type):=Rho->S->Res S Bool
def tDT{S:Type}{W:Wd S}(c:Dx W)(f:FnT S):TT:=λσ H Q=>∃ρ st,Rep c H σ ρ/\W.ok st H/\
 wpR (f ρ st) (λb st'=>∀H',Ext W H H'->W.ok st' H'->Q b H') λx st'=>∀H',Ext W H H'->W.ok st' H'->c.Ex x st' H'
def DT(X:Cx){S:Type}{W:Wd S}(c:Dx W)(e:Expr)(f:FnT S):Prop:=PT X e (tDT c f)
def D.bool?:D->Option Bool
 | .bl b=>some b
 | _=>none
def fB(S:Type)(f:Fn S):FnT S:=λρ st=>(f ρ st).bind λd st1=>ww7 d.bool? st1
theorem wd5(h:tDT c (fB S f) σ H Q):tB (tD c g f) σ H Q:=by
 obtain⟨ρ,st,R,ok,w⟩:=h;refine⟨ρ,st,R,ok,za8 (za4.mp w) (λd st1 q v H1 e ok1 z=>?_) λx st1 q=>q⟩;obtain⟨b,e1,q⟩:=zb4.mp q;cases d with
 | bl k=>
   cases e1;have z':Is c.K (λb=>¬W.mv b) H1 (.bl b) v:=z.toR;exact⟨_,Is.bl_iff.mp z',q H1 e ok1⟩
 | _=>cases e1
def zi0{e:Expr}{f:Fn S}(h:DE X c g e f)(he:∀whole,isTrue e X.env whole=(do let v <-whole;standAt e.pos;holding [v] (truthy v)):=by intro _;rfl):DT X c e (fB S f):=
 (xe8 h he).imp λσ H Q q=>wd5 q
def zd1{op:CmpOp}{r:R2}{o:D->D->Option D}{a b:Expr}{pos:Pos}{fa fb:Fn S}{ga gb:Gr}(ho:OpR X (compareOp op) r)(hr:OpD c r o)(ha:DE X c ga a fa)(hb:DE X c gb b fb)(hm:behindInMarks op b=false):DT X c (.Compare a [op] [b] pos) (fB S (f2 S o fa fb)):=
 (xa3 ho ha hb hm).imp λσ H Q q=>by
  have q':tB (tD c .R (f2 S o fa fb)) σ H Q:=wd5 q;exact vg3 (ga:=ga) (gb:=gb) hr q'
def vx5(S:Type)(f1 f2:FnT S):FnT S:=λρ st=>(f1 ρ st).bind λb st1=>if b=true then f2 ρ st1 else .ok false st1
def fOr(S:Type)(f1 f2:FnT S):FnT S:=λρ st=>(f1 ρ st).bind λb st1=>if b=true then .ok true st1 else f2 ρ st1
def vx1(S:Type)(f1:FnT S):FnT S:=λρ st=>(f1 ρ st).bind λb st1=>.ok (!b) st1
def DW(X:Cx){S:Type}{W:Wd S}(c:Dx W)(e:Expr)(f:FnT S):Prop:=PW X e (tDT c f)
def PW.imp{X:Cx}{e:Expr}{t t':TT}(h:PW X e t)(i:∀σ H Q,t' σ H Q->t σ H Q):PW X e t':=λw A3 s σ H Q I q=>h w A3 s σ H Q I (i σ H Q q)
def DW.dt{e:Expr}{f:FnT S}(h:DW X c e f):DT X c e f:=PW.pt h
def yc7{a:Expr}{pos:Pos}{f:FnT S}(h:DT X c a f):DW X c (.BoolOp .And [a] pos) f:=pw_and1 h
def yk0{a:Expr}{pos:Pos}{f:FnT S}(h:DT X c a f):DW X c (.BoolOp .Or [a] pos) f:=pw_or1 h
def yk1{a b:Expr}{wx2:List Expr}{pos:Pos}{f1 f2:FnT S}(ha:DT X c a f1)(hb:DW X c (.BoolOp .And (b::wx2) pos) f2):DW X c (.BoolOp .And (a::b::wx2) pos) (vx5 S f1 f2):=
 (pw_and ha hb).imp λσ H Q hI5=>by
  obtain⟨ρ,st,R,ok,w⟩:=hI5;refine⟨ρ,st,R,ok,za8 (za4.mp w) (λb st1 q H1 e ok1=>?_) λx st1 q=>q⟩;cases b with
  | true=>exact⟨ρ,st1,R.ext ok e,ok1,za8 q (λb st2 q H2 e2=>q H2 (e.trans e2)) λx st2 q H2 e2=>q H2 (e.trans e2)⟩
  | false=>exact q H1 e ok1
def vc9{a b:Expr}{wx2:List Expr}{pos:Pos}{f1 f2:FnT S}(ha:DT X c a f1)(hb:DW X c (.BoolOp .Or (b::wx2) pos) f2):DW X c (.BoolOp .Or (a::b::wx2) pos) (fOr S f1 f2):=
 (pw_or ha hb).imp λσ H Q hI6=>by
  obtain⟨ρ,st,R,ok,w⟩:=hI6;refine⟨ρ,st,R,ok,za8 (za4.mp w) (λb st1 q H1 e ok1=>?_) λx st1 q=>q⟩;cases b with
  | false=>exact⟨ρ,st1,R.ext ok e,ok1,za8 q (λb st2 q H2 e2=>q H2 (e.trans e2)) λx st2 q H2 e2=>q H2 (e.trans e2)⟩
  | true=>exact q H1 e ok1
def zv3{a:Expr}{pos:Pos}{f1:FnT S}(ha:DT X c a f1):DT X c (.UnaryOp .Not a pos) (vx1 S f1):=
 (we1 ha).imp λσ H Q ⟨ρ,st,R,ok,w⟩=>⟨ρ,st,R,ok,za8 (za4.mp w) (λb st1 q H1 e ok1=>q H1 e ok1) λx st1 q=>q⟩
abbrev FnA(S:Type):=Rho->S->Res S (List D)
def tDA{S:Type}{W:Wd S}(c:Dx W)(f:FnA S):TA:=λσ H Q=>∃ρ st,Rep c H σ ρ/\W.ok st H/\
 wpR (f ρ st) (λl st'=>∀vs H',Ext W H H'->W.ok st' H'->IsL c.K (λb=>¬W.mv b) H' l vs->Q vs H') λx st'=>∀H',Ext W H H'->W.ok st' H'->c.Ex x st' H'
def DA(X:Cx){S:Type}{W:Wd S}(c:Dx W)(es:List Expr)(f:FnA S):Prop:=PA X es (tDA c f)
def PA.imp(h:PA X e t)(i:∀σ H Q,t' σ H Q->t σ H Q):PA X e t':=λp A3 s σ H Q I q=>h p A3 s σ H Q I (i σ H Q q)
def vr6(S:Type):FnA S:=λ_ st=>.ok [] st
def wy2(S:Type)(f:Fn S)(r:FnA S):FnA S:=λρ st=>(f ρ st).bind λd st1=>(r ρ st1).bind λl st2=>.ok (d::l) st2
def wu2:DA X c [] (vr6 S):=zf4.imp λσ H Q ⟨ρ,st,R,ok,w⟩=>w [] H Ext.refl ok (IsL.nil.mpr rfl)
def zh0{e:Expr}{es:List Expr}{f:Fn S}{r:FnA S}(h:DE X c g e f)(hr:DA X c es r)(hs:starEach (e::es) X.env=(false,eval e X.env)::starEach es X.env:=by rfl):DA X c (e::es) (wy2 S f r):=
 (zb8 h hr hs).imp λσ H Q hI7=>by
  obtain⟨ρ,st,R,ok,w⟩:=hI7;refine⟨ρ,st,R,ok,za8 (za4.mp w) (λd st1 q v H1 e ok1 z=>?_) λx st1 q=>q⟩;refine⟨ρ,st1,R.ext ok e,ok1,za8 (za4.mp q) (λl st2 q vs H2 e2 ok2 z2=>?_) λx st2 q H2 e2 ok2=>q H2 (e.trans e2) ok2⟩;exact q (v::vs) H2 (e.trans e2) ok2 (IsL.cons.mpr ⟨v,vs,rfl,z.toR.ext e2 ok1,z2⟩)
def fA(S:Type)(o:List D->Option D)(f:FnA S):Fn S:=λρ st=>(f ρ st).bind λl st1=>ww7 (o l) st1
def wz3{S:Type}{W:Wd S}(c:Dx W)(r:List V->Hp->VK->Prop)(o:List D->Option D):Prop:=∀l vs H (st:S) d Q,W.ok st H->IsL c.K (λb=>¬W.mv b) H l vs->o l=some d->
 (∀v H',Ext W H H'->W.ok st H'->New c H H' d v->Q v H')->r vs H Q
def yz5(hr:wz3 c r o)(h:tD c g (fA S o f) σ H Q):tDA c f σ H λvs H1=>r vs H1 Q:=by
 obtain⟨ρ,st,R,ok,w⟩:=h;refine⟨ρ,st,R,ok,za8 (za4.mp w) (λl st1 q vs H1 e ok1 z=>?_) λx st1 q=>q⟩;obtain⟨d,e1,q⟩:=zb4.mp q;exact hr l vs H1 st1 d Q ok1 z e1 λv H' a b n=>q v H' (e.trans a) b ((n.val (R.ext ok e) g).back e ok1)
def vb4(l:List D):Option D:=if D.immL l=true/\l.length<=sizeLine then some (.tup l) else none
def ve0(l:List D):Option D:=if D.immL l=true/\l.length<=sizeLine then some (.lst l) else none
open H in
def wu4:wz3 c (λxs H1 Q=>xs.length<=sizeLine/\∀p,H1 p=none->Q (.ref p) (upd H1 p (.tup xs))) vb4:=by
 intro l vs H st d Q ok z e q;unfold vb4 at e;split at e
 ·rename_i h
  cases e;exact⟨by rw[<-z.length];exact h.2,λp hp=>q _ _ (Ext.laid hp) (zg7 ok hp) (New.tup ok hp (λ_ n=>n) h.1 z)⟩
 ·cases e
open H in
def wu5:wz3 c (λxs H1 Q=>xs.length<=sizeLine/\∀p,H1 p=none->Q (.ref p) (upd H1 p (.lst xs))) ve0:=by
 intro l vs H st d Q ok z e q;unfold ve0 at e;split at e
 ·rename_i h
  cases e;exact⟨by rw[<-z.length];exact h.2,λp hp=>q _ _ (Ext.laid hp) (zg7 ok hp) (New.lst ok hp (λ_ n=>n) h.1 z)⟩
 ·cases e
def zq8{es:List Expr}{x1}{pos:Pos}{f:FnA S}(h:DA X c es f):DE X c g (.Tuple es x1 pos) (fA S vb4 f):=(yh5 h).imp λσ H Q q=>yz5 (g:=g) wu4 q
def yo4{es:List Expr}{pos:Pos}{f:FnA S}(h:DA X c es f):DE X c g (.List es pos) (fA S ve0 f):=(xr1 h).imp λσ H Q q=>yz5 (g:=g) wu5 q
def xi7{id:String}{x:Str}(h:PE X (.Call (.Name x p) (e::es) [] pos) (tCB r t))(ht:t=tDA c f)(hr:wz3 c r o):DE X c g (.Call (.Name x p) (e::es) [] pos) (fA S o f):=
 h.imp λσ H Q q=>by rw[ht];exact yz5 (g:=g) hr q
def sp0(K:PySem.W.Frag)(F:List D->Res Unit D):Sp:=λvs H Q _=>∃l,IsL K (λ_=>True) H l vs/\wpR (F l) (λd _=>∀v H',wx4 H H'->Is K (λb=>H b=none) H' d v->Q v H') λ_ _=>False
def spS{S:Type}(W:Wd S)(K:PySem.W.Frag)(F:List D->S->Res S D):Sp:=λvs H Q _=>∃l us st,vs=W.h::us/\IsL K (λb=>¬W.mv b) H l us/\W.ok st H/\
 wpR (F l st) (λd st'=>∀v H',Ext W H H'->W.ok st' H'->Is K (λb=>¬W.mv b/\H b=none) H' d v->Q v H') λ_ _=>False
def vh3(S:Type)(F:List D->Res Unit D)(f:FnA S):Fn S:=λρ st=>(f ρ st).bind λl st1=>match F l with
 | .ok d _=>.ok d st1
 | _=>.bad
theorem xy6(h:tD c g (vh3 S F f) σ H Q):vd8 (sp0 c.K F) [] E (tDA c f) σ H Q:=by
 obtain⟨ρ,st,R,ok,w⟩:=h;refine⟨ρ,st,R,ok,za8 (za4.mp w) (λl st1 q vs H1 e ok1 z=>?_) λx st1 q=>q⟩;show sp0 c.K F (vs++[]) H1 Q E;rw[Az0];refine⟨l,IsL.mono (A:=λb=>¬W.mv b) ⟨λ_ _ z _=>z,λb o a z=>⟨trivial,z⟩⟩ z,?_⟩;cases q':F l with
 | ok d u=>
   rw[q'] at q;intro v H' s n;have okH:W.ok st1 H':=W.stay st1 H1 H' ok1 λb o _ hb=>s b o hb
   have n':New c H1 H' d v:=Is.mono (A:=λb=>H1 b=none) ⟨λ_ _ z _=>z,λb o a z=>⟨⟨zn7 ok1 a,a⟩,z⟩⟩ n;exact q v H' (e.trans s.ext) okH ((n'.val (R.ext ok e) g).back e ok1)
 | exc x u=>rw[q'] at q;exact q.elim
 | bad=>rw[q'] at q;exact q.elim
def yx2(S:Type)(F:List D->S->Res S D)(i:Nat)(f:FnA S):Fn S:=λρ st=>match ρ[i]? with
 | some .hnd=>(f ρ st).bind λl st1=>match F l st1 with
   | .ok d st2=>.ok d st2
   | _=>.bad
 | _=>.bad
theorem xy5{i:Nat}(h:tD c g (yx2 S F i f) σ H Q):vd8 (spS W c.K F) [] E (vi5 (vb2 i) (tDA c f)) σ H Q:=by
 obtain⟨ρ,st,R,ok,w⟩:=h;unfold yx2 at w;cases hi:ρ[i]? with
 | none=>rw[hi] at w;exact w.elim
 | some s=>
   rw[hi] at w;have zs:=R.slot i s hi;cases s with
   | no=>exact w.elim
   | bor d=>exact w.elim
   | own d=>exact w.elim
   | hnd=>
     have zs:(σ[i]?).join=some W.h:=zs;have ei:σ[i]?=some (some W.h):=by
      cases q:σ[i]? with
      | none=>rw[q] at zs;cases zs
      | some a=>rw[q] at zs;rw[show a=some W.h from zs]
     refine⟨W.h,ei,ρ,st,R,ok,za8 (za4.mp w) (λl st1 q vs H1 e ok1 z=>?_) λx st1 q=>q⟩;show spS W c.K F ((W.h::vs)++[]) H1 Q E;rw[Az0];refine⟨l,vs,st1,rfl,z,ok1,?_⟩;cases q':F l st1 with
     | ok d st2=>
       rw[q'] at q;intro v H' s okH n;exact q v H' (e.trans s) okH ((New.val (R.ext ok e) n g).back e ok1)
     | exc x u=>rw[q'] at q;exact q.elim
     | bad=>rw[q'] at q;exact q.elim
end
inductive Fl where
 | nx (ρ:Rho) | rt (d:D) | bk (ρ:Rho) | ct (ρ:Rho)
abbrev FnS(S:Type):=Rho->S->Res S Fl
structure Frm{S:Type}{W:Wd S}(c:Dx W)(H:Hp)(σ:St)(ρ:Rho)(H':Hp)(σ':St)(ρ':Rho):Prop where
 keep:∀b o,H b=some o->¬W.mv b->¬Ow σ ρ b->H' b=some o
 own:∀b o,H b=some o->¬W.mv b->Ow σ' ρ' b->Ow σ ρ b
def F0{S:Type}{W:Wd S}(c:Dx W)(H':Hp):Prop:=∀b o,c.H0 b=some o->¬W.mv b->H' b=some o
def Nx{S:Type}{W:Wd S}(c:Dx W)(Q:St->Hp->Prop)(σ:St)(ρ:Rho)(H:Hp)(ρ':Rho)(st':S):Prop:=∀σ' H',Frm c H σ ρ H' σ' ρ'->W.ok st' H'->Rep c H' σ' ρ'->Q σ' H'
def Rt{S:Type}{W:Wd S}(c:Dx W)(Q:VK)(d:D)(st':S):Prop:=∀v H',F0 c H'->W.ok st' H'->Is c.K (λb=>¬W.mv b/\c.H0 b=none) H' d v->Q v H'
def wz0{S:Type}{W:Wd S}(c:Dx W)(D:vf8)(σ:St)(ρ:Rho)(H:Hp)(fl:Fl)(st':S):Prop:=match fl with
 | .nx ρ'=>Nx c D.nx σ ρ H ρ' st'
 | .bk ρ'=>Nx c D.bk σ ρ H ρ' st'
 | .ct ρ'=>Nx c D.ct σ ρ H ρ' st'
 | .rt d=>Rt c D.rt d st'
def vg2{S:Type}{W:Wd S}(c:Dx W)(x:Exn)(st':S):Prop:=∀H',F0 c H'->W.ok st' H'->c.Ex x st' H'
def tS{S:Type}{W:Wd S}(c:Dx W)(F:FnS S):TS:=λD σ H=>∃ρ st,Rep c H σ ρ/\W.ok st H/\wpR (F ρ st) (wz0 c D σ ρ H) (vg2 c)
def DS(X:Cx){S:Type}{W:Wd S}(c:Dx W)(s:Stmt)(F:FnS S):Prop:=PS X s (tS c F)
def DSs(X:Cx){S:Type}{W:Wd S}(c:Dx W)(s:List Stmt)(F:FnS S):Prop:=PSs X s (tS c F)
section
variable{S:Type}{W:Wd S}{c:Dx W}{H H1 H2 H':Hp}{σ σ1 σ2 σ':St}{ρ ρ1 ρ2 ρ':Rho}{st st1:S}
def Frm.refl:Frm c H σ ρ H σ ρ:=⟨λ_ _ h _ _=>h,λ_ _ _ _ h=>h⟩
def Frm.trans(a:Frm c H σ ρ H1 σ1 ρ1)(b:Frm c H1 σ1 ρ1 H2 σ2 ρ2):Frm c H σ ρ H2 σ2 ρ2 where
 keep:=λx o h m w=>b.keep x o (a.keep x o h m w) m λw1=>w (a.own x o h m w1)
 own:=λx o h m w=>by
  by_cases w0:Ow σ ρ x
  ·exact w0
  ·exact a.own x o h m (b.own x o (a.keep x o h m w0) m w)
def Ext.frm(e:Ext W H H'):Frm c H σ ρ H' σ ρ:=⟨λb o h m _=>e b o h m,λ_ _ _ _ h=>h⟩
def Ext.f0(R:Rep c H σ ρ)(e:Ext W H H'):F0 c H':=λb o h n=>e b o (R.frame b o h n) n
def Nx.from(h:Nx c Q σ ρ H ρ' st)(f:Frm c H σ ρ H1 σ1 ρ1):Nx c Q σ1 ρ1 H1 ρ' st:=λσ' H' g ok R=>h σ' H' (f.trans g) ok R
theorem wz0.from{D:vf8}{fl:Fl}(h:wz0 c D σ ρ H fl st)(f:Frm c H σ ρ H1 σ1 ρ1):wz0 c D σ1 ρ1 H1 fl st:=by
 cases fl with
 | nx r=>exact Nx.from h f
 | bk r=>exact Nx.from h f
 | ct r=>exact Nx.from h f
 | rt d=>exact h
def Frm.keepT(R:Rep c H σ ρ)(ok:W.ok st H)(f:Frm c H σ ρ H' σ' ρ'):ww5 (Av c σ ρ) (Av c σ' ρ') H H':=
 zj3 (λb o h t=>f.keep b o h (λm=>by
  obtain⟨o',h',n1,n2⟩:=W.live st H b ok m;rw[h] at h';cases h';rcases t with⟨u,z⟩ | ⟨ob,u,z⟩
  ·exact n1 u z
  ·exact n2 ob u z) λw=>by
  obtain⟨_,_,o',h',n1,n2⟩:=R.owOk w;rw[h] at h';cases h';rcases t with⟨u,z⟩ | ⟨ob,u,z⟩
  ·exact n1 u z
  ·exact n2 ob u z) λb o a h=>⟨⟨a.1,λw=>a.2.1 (f.own b o h a.1 w),a.2.2⟩,f.keep b o h a.1 a.2.1⟩
def yb5{g:Gr}{f:Fn S}{k:D->FnS S}{D:vf8}(h:tS c (λρ st=>(f ρ st).bind λd st1=>k d ρ st1) D σ H) :
 tD c g f σ H λv H1=>∃ρ d st0 st1,Rep c H σ ρ/\W.ok st0 H/\Rep c H1 σ ρ/\W.ok st1 H1/\Ext W H H1/\Val c g σ ρ H H1 d v/\wpR (k d ρ st1) (wz0 c D σ ρ H) (vg2 c):=by
 obtain⟨ρ,st,R,ok,w⟩:=h;refine⟨ρ,st,R,ok,za8 (za4.mp w) (λd st1 q v H1 e ok1 z=>?_) λx st1 q H1 e ok1=>q H1 (e.f0 R) ok1⟩;exact⟨ρ,d,st,st1,R,ok,R.ext ok e,ok1,e,z,q⟩
def wh6{f:FnT S}{k:Bool->FnS S}{D:vf8}(h:tS c (λρ st=>(f ρ st).bind λd st1=>k d ρ st1) D σ H) :
 tDT c f σ H λb H1=>∃ρ st1,Rep c H1 σ ρ/\W.ok st1 H1/\wpR (k b ρ st1) (wz0 c D σ ρ H1) (vg2 c):=by
 obtain⟨ρ,st,R,ok,w⟩:=h;refine⟨ρ,st,R,ok,za8 (za4.mp w) (λd st1 q H1 e ok1=>?_) λx st1 q H1 e ok1=>q H1 (e.f0 R) ok1⟩;exact⟨ρ,st1,R.ext ok e,ok1,za8 q (λfl st2 q=>q.from e.frm) λx st2 q=>q⟩
end
section
variable{X:Cx}{S:Type}{W:Wd S}{c:Dx W}
def vz6(S:Type):FnS S:=λρ st=>.ok (.nx ρ) st
def vk4(S:Type)(F G:FnS S):FnS S:=λρ st=>(F ρ st).bind λfl st1=>match fl with
 | .nx ρ1=>G ρ1 st1
 | .rt d=>.ok (.rt d) st1
 | .bk r=>.ok (.bk r) st1
 | .ct r=>.ok (.ct r) st1
def zc4:DSs X c [] (vz6 S):=zx8.imp λD σ H ⟨ρ,st,R,ok,w⟩=>w σ H Frm.refl ok R
def za5{s:Stmt}{r:List Stmt}{F G:FnS S}(h1:DS X c s F)(h2:DSs X c r G):DSs X c (s::r) (vk4 S F G):=
 (zg4 h1 h2).imp λD σ H hI8=>by
  obtain⟨ρ,st,R,ok,w⟩:=hI8;refine⟨ρ,st,R,ok,za8 (za4.mp w) (λfl st1 q=>?_) λx st1 q=>q⟩;cases fl with
  | nx ρ1=>exact λσ1 H1 f ok1 R1=>⟨ρ1,st1,R1,ok1,za8 q (λfl st2 q=>q.from f) λx st2 q=>q⟩
  | rt d=>exact q
  | bk r=>exact q
  | ct r=>exact q
def za7{s:Stmt}{F:FnS S}(h1:DS X c s F):DSs X c [s] F:=zp6 h1
def vn9(S:Type)(f:Fn S):FnS S:=λρ st=>(f ρ st).bind λ_ st1=>.ok (.nx ρ) st1
def D.flat:D->Bool
 | .lst l=>D.immL l
 | .dct _ l=>D.immL l
 | _=>false
def vq4(S:Type)(f:Fn S):FnS S:=λρ st=>(f ρ st).bind λd st1=>if d.imm=true\/d.flat=true then .ok (.rt d) st1 else .bad
theorem xi0{K:PySem.W.Frag}{A A':Addr->Prop}{H:Hp}{d:D}{a:Addr}(h:Is K A H d (.ref a))(m:d.flat=true)(n:A' a):Is K A' H d (.ref a):=by
 cases d with
 | lst l=>
   obtain⟨b,vs,e,_,e2,i⟩:=Is.lst_iff.mp h;cases e;exact Is.lst n e2 (IsL.ofImm m i)
 | dct ks l=>
   obtain⟨b,vs,e,_,i,q⟩:=Is.dct_iff.mp h;cases e;exact Is.dct_iff.mpr ⟨a,vs,rfl,n,IsL.ofImm m i,q⟩
 | _=>simp[D.flat] at m
theorem xh9{K:PySem.W.Frag}{A:Addr->Prop}{H:Hp}{d:D}{v:V}(h:Is K A H d v)(m:d.flat=true):∃a,v=.ref a/\d.mut=true/\A a/\∃o,H a=some o:=by
 cases d with
 | lst l=>
   obtain⟨b,vs,e,n,e2,i⟩:=Is.lst_iff.mp h;exact⟨b,e,rfl,n,_,e2⟩
 | dct ks l=>
   obtain⟨b,vs,e,n,i,q⟩:=Is.dct_iff.mp h;rcases q with⟨_,_,_,q⟩ | ⟨_,_,_,q⟩<;>exact⟨b,e,rfl,n,_,q⟩
 | _=>simp[D.flat] at m
theorem Rep.none0{H:Hp}{σ:St}{ρ:Rho}{st:S}(R:Rep c H σ ρ)(ok:W.ok st H){a:Addr}(h:H a=none):c.H0 a=none:=by
 cases q:c.H0 a with
 | none=>rfl
 | some o=>rw[R.frame a o q (zn7 ok h)] at h;cases h
def zc9{e:Expr}{f:Fn S}{pos:Pos}(h:DE X c .F e f):DS X c (.Return (some e) pos) (vq4 S f):=
 (zz4 h).imp λD σ H q=>zh5 (yb5 (g:=.F) q) λv H1 hI9=>by
  obtain⟨ρ,d,st0,st1,R,ok,R1,ok1,e,z,w⟩:=hI9;by_cases m:d.imm=true\/d.flat=true
  ·rw[if_pos m] at w
   refine w v H1 (e.f0 R) ok1 ?_;rcases m with m | m
   ·exact Is.ofImm m z.1
   ·obtain⟨a,rfl,mu,av,_⟩:=xh9 z.1 m
    exact xi0 z.1 m ⟨av.1,R.none0 ok (z.2 a rfl mu)⟩
  ·rw[if_neg m] at w;exact w.elim
def own?(ρ:Rho)(i:Nat):Option D:=match ρ[i]? with
 | some (.own d)=>if d.flat=true then some d else none
 | some (.bor d)=>if d.imm=true then some d else none
 | _=>none
def vk5(S:Type)(i:Nat):FnS S:=λρ st=>(ww7 (own? ρ i) st).bind λd st1=>.ok (.rt d) st1
open H in
def zl5{i:Nat}{x:Str}{p pos:Pos}(h:PE X (.Name x p) (vb2 i)):DS X c (.Return (some (.Name x p)) pos) (vk5 S i):=
 (zz4 h).imp λD σ H hI10=>by
  obtain⟨ρ,st,R,ok,w⟩:=hI10;obtain⟨d,e,q⟩:=zb4.mp (za4.mp w);have jn:∀{o:Option (Option V)} {v:V},o.join=some v->o=some (some v):=λ{o v} e=>by cases o with
   | none=>cases e
   | some a=>rw[show a=some v from e]
  unfold own? at e;cases hs:ρ[i]? with
  | none=>rw[hs] at e;cases e
  | some s=>
    rw[hs] at e;have z:=R.slot i s hs;cases s with
    | no=>cases e
    | hnd=>cases e
    | bor d'=>
      have e:(if d'.imm=true then some d' else none)=some d:=e;split at e
      ·rename_i m
       cases e;obtain⟨v,e1,i1⟩:=z;exact⟨v,jn e1,q v H (λb o h n=>R.frame b o h n) ok (Is.ofImm m i1)⟩
      ·cases e
    | own d'=>
      have e:(if d'.flat=true then some d' else none)=some d:=e;split at e
      ·rename_i m
       cases e;obtain⟨a,e1,n,f,t⟩:=z;have tt:Is c.K (λb=>¬W.mv b) H d (.ref a):=(t.mono (A':=λb=>¬W.mv b) ⟨λ_ _ z _=>z,λb o a z=>⟨a.1,z⟩⟩ λo z=>z).isTop n.1;exact⟨_,jn e1,q _ H (λb o h n=>R.frame b o h n) ok (xi0 tt m ⟨n.1,f⟩)⟩
      ·cases e
def vt9(S:Type):FnS S:=λ_ st=>.ok (.rt .non) st
def sIf(S:Type)(t:FnT S)(F G:FnS S):FnS S:=λρ st=>(t ρ st).bind λb st1=>if b=true then F ρ st1 else G ρ st1
open H in
def wv7{e:Expr}{a b:List Stmt}{pos:Pos}{t:FnT S}{F G:FnS S}(h:DT X c e t)(ha:DSs X c a F)(hb:DSs X c b G):DS X c (.If e a b pos) (sIf S t F G):=
 (vc5 h ha hb).imp λD σ H q=>by
  obtain⟨ρ,st,R,ok,w⟩:=wh6 (k:=λb=>if b=true then F else G) (by
   obtain⟨ρ,st,R,ok,w⟩:=q;refine⟨ρ,st,R,ok,?_⟩;have e:sIf S t F G ρ st=(t ρ st).bind λd st1=>(if d=true then F else G) ρ st1:=by
    unfold sIf;congr;funext d st1;cases d<;>rfl
   rw[e] at w;exact w)
  refine⟨ρ,st,R,ok,za8 w (λb st1 q H1 e ok1=>?_) λx st1 q=>q⟩;obtain⟨ρ1,st2,R1,ok2,w1⟩:=q H1 e ok1;cases b with
  | true=>exact⟨ρ1,st2,R1,ok2,w1⟩
  | false=>exact⟨ρ1,st2,R1,ok2,w1⟩
def wo5(S:Type):FnS S:=λρ st=>.ok (.bk ρ) st
def vu2(S:Type):FnS S:=λρ st=>.ok (.ct ρ) st
end
section
variable{X:Cx}{S:Type}{W:Wd S}{c:Dx W}{H H1 H':Hp}{σ σ':St}{ρ ρ':Rho}{st:S}{i:Nat}{d:D}{v:V}
def zb6{α:Type}{l:List α}{i j:Nat}{a b:α}(h:(l.set i a)[j]?=some b):(j=i/\b=a)\/(j≠i/\l[j]?=some b):=by
 by_cases e:j=i
 ·subst e
  rw[List.getElem?_set_self'] at h;cases q:l[j]? with
  | none=>rw[q] at h;cases h
  | some x=>rw[q] at h;exact .inl ⟨rfl,(Option.some.inj h).symm⟩
 ·rw[At0 (Ne.symm e)] at h
  exact .inr ⟨e,h⟩
theorem zl2(e:o.join=some v):o=some (some v):=by
 cases o with
 | none=>cases e
 | some a=>rw[show a=some v from e]
def ym4{b:Addr}(h:Ow (σ.set i (some v)) (ρ.set i (.bor d)) b):Ow σ ρ b:=by
 obtain⟨j,e,h1,h2⟩:=h;rcases zb6 h1 with⟨_,z⟩ | ⟨n,z⟩
 ·cases z
 ·rcases zb6 h2 with⟨m,_⟩ | ⟨_,y⟩
  ·exact absurd m n
  ·exact⟨j,e,z,y⟩
def Rep.setB(R:Rep c H σ ρ)(hi:i<ρ.length)(h:Is c.K (Av c σ ρ) H d v):Rep c H (σ.set i (some v)) (ρ.set i (.bor d)) where
 len:=by rw[Bu0,Bu0];exact R.len
 frame:=R.frame
 avl:=R.avl
 slot:=λj s hs=>by
  have k:ww5 (Av c σ ρ) (Av c (σ.set i (some v)) (ρ.set i (.bor d))) H H:=⟨λ_ _ z _=>z,λb o a z=>⟨⟨a.1,λw=>a.2.1 (ym4 w),a.2.2⟩,z⟩⟩;rcases zb6 hs with⟨e,z⟩ | ⟨n,z⟩
  ·subst z
   subst e;refine⟨v,?_,Is.mono k h⟩;rw[Bk0 (by rw[R.len];exact hi)];rfl
  ·rw[At0 (Ne.symm n)]
   have q:=R.slot j s z;cases s with
   | no=>trivial
   | bor e=>obtain⟨v',e1,i1⟩:=q;exact⟨v',e1,i1.mono k⟩
   | own e=>obtain⟨a,e1,n1,f,t⟩:=q;exact⟨a,e1,n1,f,t.mono k λo z=>z⟩
   | hnd=>exact q
 uniq:=λj j' a e e' h1 h2 h3 h4=>by
  rcases zb6 h1 with⟨_,z⟩ | ⟨n,z⟩
  ·cases z
  ·rcases zb6 h2 with⟨_,z'⟩ | ⟨n',z'⟩
   ·cases z'
   ·rw[At0 (Ne.symm n)] at h3
    rw[At0 (Ne.symm n')] at h4;exact R.uniq j j' a e e' z z' h3 h4
def zg5:Frm c H σ ρ H (σ.set i (some v)) (ρ.set i (.bor d)):=⟨λ_ _ h _ _=>h,λ_ _ _ _ w=>ym4 w⟩
def ym3{a b:Addr}(h:Ow (σ.set i (some (.ref a))) (ρ.set i (.own d)) b):Ow σ ρ b\/b=a:=by
 obtain⟨j,e,h1,h2⟩:=h;rcases zb6 h1 with⟨m,_⟩ | ⟨n,z⟩
 ·rcases zb6 h2 with⟨_,y⟩ | ⟨n,_⟩
  ·cases y;exact .inr rfl
  ·exact absurd m n
 ·rcases zb6 h2 with⟨m,_⟩ | ⟨_,y⟩
  ·exact absurd m n
  ·exact .inl ⟨j,e,z,y⟩
def Rep.setO{a:Addr}(R:Rep c H σ ρ)(ok:W.ok st H)(x:Ext W H H1){st1:S}(ok1:W.ok st1 H1)(hi:i<ρ.length)(h:Is c.K (Av c σ ρ) H1 d (.ref a))(m:d.flat=true)(hn:H a=none) :
 Rep c H1 (σ.set i (some (.ref a))) (ρ.set i (.own d))/\Frm c H σ ρ H1 (σ.set i (some (.ref a))) (ρ.set i (.own d)):=by
 have hmv:¬W.mv a:=zn7 ok hn;have k:ww5 (Av c σ ρ) (Av c (σ.set i (some (.ref a))) (ρ.set i (.own d))) H H1:=zj3 (λb o e t=>x b o e λmm=>by
  obtain⟨o',h',n1,n2⟩:=W.live st H b ok mm;rw[e] at h';cases h';rcases t with⟨u,z⟩ | ⟨ob,u,z⟩
  ·exact n1 u z
  ·exact n2 ob u z) λb o av e=>⟨⟨av.1,(λw=>by
   rcases ym3 w with w | w
   ·exact av.2.1 w
   ·subst w;rw[hn] at e;cases e),av.2.2⟩,x b o e av.1⟩
 refine⟨⟨by rw[Bu0,Bu0];exact R.len,λb o e n=>x b o (R.frame b o e n) n,λj s hs=>?_,(λb h=>let ⟨n,z,o,h',q⟩:=R.avl b h;⟨n,z,o,x b o h' n,q⟩),λj j' b e e' h1 h2 h3 h4=>?_⟩,⟨λb o e n w=>x b o e n,λb o e n w=>?_⟩⟩
 ·rcases zb6 hs with⟨e,z⟩ | ⟨n,z⟩
  ·subst z
   subst e;refine⟨a,by rw[Bk0 (by rw[R.len];exact hi)];rfl,⟨hmv,λw=>by obtain⟨_,_,o,h',_⟩:=R.avl a w;rw[hn] at h';cases h'⟩,R.none0 ok hn,?_⟩;cases d with
   | lst l=>
     obtain⟨b,vs,e,_,e2,i1⟩:=Is.lst_iff.mp h;cases e;exact⟨vs,e2,IsL.ofImm m i1⟩
   | dct ks l=>
     obtain⟨b,vs,e,_,i1,q⟩:=Is.dct_iff.mp h;cases e;exact⟨vs,IsL.ofImm m i1,q⟩
   | _=>simp[D.flat] at m
  ·rw[At0 (Ne.symm n)]
   have q:=R.slot j s z;cases s with
   | no=>trivial
   | bor e=>obtain⟨v',e1,i1⟩:=q;exact⟨v',e1,i1.mono k⟩
   | own e=>obtain⟨b,e1,n1,f,t⟩:=q;exact⟨b,e1,n1,f,t.mono k λo z=>x b o z n1.1⟩
   | hnd=>exact q
 ·have fresh:∀(j:Nat) (e:D),ρ[j]?=some (.own e)->σ[j]?=some (some (.ref a))->False:=λj e h1 h2=>by
   obtain⟨_,_,o,h',_⟩:=R.owOk ⟨j,e,h1,h2⟩;rw[hn] at h';cases h'
  rcases zb6 h1 with⟨m1,z⟩ | ⟨n,z⟩
  ·rcases zb6 h2 with⟨m2,z'⟩ | ⟨n',z'⟩
   ·rw[m1,m2]
   ·rw[At0 (Ne.symm n')] at h4
    rcases zb6 h3 with⟨_,y⟩ | ⟨n3,_⟩
    ·cases y;exact(fresh j' e' z' h4).elim
    ·exact absurd m1 n3
  ·rcases zb6 h2 with⟨m2,z'⟩ | ⟨n',z'⟩
   ·rw[At0 (Ne.symm n)] at h3
    rcases zb6 h4 with⟨_,y⟩ | ⟨n3,_⟩
    ·cases y;exact(fresh j e z h3).elim
    ·exact absurd m2 n3
   ·rw[At0 (Ne.symm n)] at h3
    rw[At0 (Ne.symm n')] at h4;exact R.uniq j j' b e e' z z' h3 h4
 ·rcases ym3 w with w | w
  ·exact w
  ·subst w;rw[hn] at e;cases e
def put(ρ:Rho)(i:Nat)(d:D):Option Rho:=if i<ρ.length then some (ρ.set i (.bor d)) else none
def putN(ρ:Rho)(i:Nat)(d:D):Option Rho:=if i<ρ.length then some (ρ.set i (if d.flat=true then .own d else .bor d)) else none
def vm8(S:Type)(i:Nat)(f:Fn S):FnS S:=λρ st=>(f ρ st).bind λd st1=>(ww7 (putN ρ i d) st1).bind λρ' st2=>.ok (.nx ρ') st2
def vi6(S:Type)(i:Nat)(f:Fn S):FnS S:=λρ st=>(f ρ st).bind λd st1=>(ww7 (put ρ i d) st1).bind λρ' st2=>.ok (.nx ρ') st2
open H in
def xo6{f:Fn S}{D:vf8}(h:tS c (vm8 S i f) D σ H):vm7 (tD c .F f) (ve6 i) D σ H:=
 zh5 (yb5 (g:=.F) h) λv H1 hI11=>by
  obtain⟨ρ,d,st0,st1,R,ok,R1,ok1,e,z,w⟩:=hI11;obtain⟨ρ',e1,w⟩:=zb4.mp (za4.mp w);unfold putN at e1;split at e1
  ·rename_i hi
   by_cases m:d.flat=true
   ·rw[if_pos m] at e1
    cases e1;obtain⟨a,rfl,mu,av,_⟩:=xh9 z.1 m;obtain⟨R2,F2⟩:=R.setO (i:=i) ok e ok1 hi z.1 m (z.2 a rfl mu);exact w (σ.set i (some (.ref a))) H1 F2 ok1 R2
   ·rw[if_neg m] at e1
    cases e1;exact w _ H1 (e.frm.trans zg5) ok1 (R1.setB hi z.1)
  ·cases e1
open H in
def wh7{f:Fn S}{D:vf8}(h:tS c (vi6 S i f) D σ H):vm7 (tD c .B f) (ve6 i) D σ H:=
 zh5 (yb5 (g:=.B) h) λv H1 hI12=>by
  obtain⟨ρ,d,st0,st1,R,ok,R1,ok1,e,z,w⟩:=hI12;obtain⟨ρ',e1,w⟩:=zb4.mp (za4.mp w);unfold put at e1;split at e1
  ·rename_i hi
   cases e1;exact w _ H1 (e.frm.trans zg5) ok1 (R1.setB hi z)
  ·cases e1
def zc5{x:Str}{e:Expr}{f:Fn S}{p pos:Pos}(hN:X.N.Nodup)(hi:X.N[i]?=some x)(hx:Loc X.env.scope x)(he:DE X c .F e f)(hs:swapsWith e (some (.Name x p)) pos.line X.env=pure false:=by rfl)(hf:X.fn x=true\/X.env.scope.names.lookup x=some .local:=by first | exact .inl rfl | exact .inr rfl | assumption) :
 DS X c (.Assign [.Name x p] e pos) (vm8 S i f):=(zl6 hN hi hx he hs hf).imp λD σ H q=>xo6 q
def xu7{x:Str}(hN:X.N.Nodup)(hi:X.N[i]?=some x)(hx:Loc X.env.scope x)(he:DE X c .B e f)(hs:swapsWith e (some (.Name x p)) pos.line X.env=pure false:=by rfl)(hf:X.fn x=true\/X.env.scope.names.lookup x=some .local:=by first | exact .inl rfl | exact .inr rfl | assumption) :
 DS X c (.Assign [.Name x p] e pos) (vi6 S i f):=(zl6 hN hi hx he hs hf).imp λD σ H q=>wh7 q
abbrev FnG:=D->Rho->Option Rho
abbrev vj8:=List D->Rho->Option Rho
def tG{S:Type}{W:Wd S}(c:Dx W)(G:FnG):TG:=λv σ H Q=>∃ρ d ρ' st,Rep c H σ ρ/\W.ok st H/\Is c.K (Av c σ ρ) H d v/\G d ρ=some ρ'/\∀σ',Rep c H σ' ρ'->Frm c H σ ρ H σ' ρ'->Q σ' H
def tGs{S:Type}{W:Wd S}(c:Dx W)(G:vj8):TGs:=λvs σ H Q=>∃ρ l ρ' st,Rep c H σ ρ/\W.ok st H/\IsL c.K (Av c σ ρ) H l vs/\G l ρ=some ρ'/\∀σ',Rep c H σ' ρ'->Frm c H σ ρ H σ' ρ'->Q σ' H
def DG(X:Cx){S:Type}{W:Wd S}(c:Dx W)(e:Expr)(G:FnG):Prop:=PG X e (tG c G)
def DGs(X:Cx){S:Type}{W:Wd S}(c:Dx W)(e:List Expr)(G:vj8):Prop:=PGs X e (tGs c G)
def PG.imp(h:PG X e t)(i:∀v σ H Q,t' v σ H Q->t v σ H Q):PG X e t':=λA3 s σ H v u Q I r q=>h A3 s σ H v u Q I r (i v σ H Q q)
def PGs.imp(h:PGs X e t)(i:∀v σ H Q,t' v σ H Q->t v σ H Q):PGs X e t':=λA3 s σ H v u Q I r q=>h A3 s σ H v u Q I r (i v σ H Q q)
def gN(i:Nat):FnG:=λd ρ=>put ρ i d
open H in
def zb2{x:Str}{pos:Pos}(hN:X.N.Nodup)(hi:X.N[i]?=some x)(hx:Loc X.env.scope x)(hf:X.fn x=true\/X.env.scope.names.lookup x=some .local:=by first | exact .inl rfl | exact .inr rfl | assumption):DG X c (.Name x pos) (gN i):=
 (yq1 hN hi hx hf).imp λv σ H Q hI13=>by
  obtain⟨ρ,d,ρ',st,R,ok,z,e,q⟩:=hI13;unfold gN put at e;split at e
  ·rename_i h
   cases e;exact q _ (R.setB h z) zg5
  ·cases e
def gsNil:vj8:=λl ρ=>match l with
 | []=>some ρ
 | _=>none
def gsCons(G:FnG)(Gs:vj8):vj8:=λl ρ=>match l with
 | d::r=>(G d ρ).bind λρ1=>Gs r ρ1
 | []=>none
theorem zi3:DGs X c [] gsNil:=xa5.imp λv σ H Q hI14=>by
 obtain⟨ρ,l,ρ',st,R,ok,z,e,q⟩:=hI14;cases l with
 | nil=>cases e;exact⟨IsL.nil.mp z,q σ R Frm.refl⟩
 | cons _ _=>cases e
def zc2{e:Expr}{es:List Expr}{G:FnG}{Gs:vj8}(h1:DG X c e G)(h2:DGs X c es Gs)(hs:(assignEach (e::es) X.env).map (·.2)=assign e X.env::(assignEach es X.env).map (·.2):=by rfl):DGs X c (e::es) (gsCons G Gs):=
 (zz6 h1 h2 hs).imp λv σ H Q hI15=>by
  obtain⟨ρ,l,ρ',st,R,ok,z,e,q⟩:=hI15;cases l with
  | nil=>cases e
  | cons d r=>
    obtain⟨v1,vs,e1,i1,j1⟩:=IsL.cons.mp z;have e:(G d ρ).bind (λρ1=>Gs r ρ1)=some ρ':=e;cases q1:G d ρ with
    | none=>rw[q1] at e;cases e
    | some ρ1=>
      rw[q1] at e;refine⟨v1,vs,e1,ρ,d,ρ1,st,R,ok,i1,q1,λσ1 R1 F1=>?_⟩;exact⟨ρ1,r,ρ',st,R1,ok,j1.mono (F1.keepT R ok),e,λσ2 R2 F2=>q σ2 R2 (F1.trans F2)⟩
def gT(n:Nat)(Gs:vj8):FnG:=λd ρ=>match d with
 | .tup l=>if l.length=n then Gs l ρ else none
 | _=>none
open H in
def zo2{es:List Expr}{k:Nat}{pos:Pos}{Gs:vj8}{n:Nat}(hc:X.calm=true)(hK:c.K=X.K)(h:DGs X c es Gs)(hn:(assignEach es X.env).length=n:=by rfl)(hst:(assignEach es X.env).findIdx? (·.1)=none:=by rfl):DG X c (.Tuple es k pos) (gT n Gs):=
 (xr0 hc h hn hst).imp λv σ H Q hI16=>by
  obtain⟨ρ,d,ρ',st,R,ok,z,e,q⟩:=hI16;cases d with
  | tup l=>
    obtain⟨a,vs,e1,s1,j1⟩:=Is.tup_sq z;have e:(if l.length=n then Gs l ρ else none)=some ρ':=e;split at e
    ·rename_i hl
     exact⟨a,vs,e1,by rw[<-hK];exact s1,by rw[<-j1.length];exact hl,ρ,l,ρ',st,R,ok,j1,e,q⟩
    ·cases e
  | _=>cases e
def vu3(S:Type)(G:FnG)(f:Fn S):FnS S:=λρ st=>(f ρ st).bind λd st1=>(ww7 (G d ρ) st1).bind λρ' st2=>.ok (.nx ρ') st2
def ye3{tg e:Expr}{f:Fn S}{G:FnG}{pos:Pos}(he:DE X c .B e f)(hg:DG X c tg G)(hs:swapsWithSole [tg] e pos.line X.env=pure false:=by rfl)(hw:swappedStores [tg] e X.env=pure none:=by rfl)(h1:(assignEach [tg] X.env).map (·.2)=[assign tg X.env]:=by rfl):DS X c (.Assign [tg] e pos) (vu3 S G f):=
 (ym2 he hg hs hw h1).imp λD σ H q=>zh5 (yb5 (g:=.B) q) λv H1 hI17=>by
  obtain⟨ρ,d,st0,st1,R,ok,R1,ok1,e,z,w⟩:=hI17;obtain⟨ρ',e1,w⟩:=zb4.mp (za4.mp w);exact⟨ρ,d,ρ',st1,R1,ok1,z,e1,λσ' R' F'=>w σ' H1 (e.frm.trans F') ok1 R'⟩
end
def xj4{S:Type}{W:Wd S}(c:Dx W)(σ:St)(ρ:Rho)(H:Hp)(J:It)(l:List D):Prop:=∀(c':Dx W) (hK:c'.K=c.K) σ2 ρ2 H2 (st2:S),ww5 (Av c σ ρ) (Av c' σ2 ρ2) H H2->Rep c' H2 σ2 ρ2->W.ok st2 H2->∀i:Nat,
 (∀d,l[i]?=some d->J.go i H2/\∀x H3,J.yld i H2 x H3->wx4 H2 H3/\Is c.K (Av c' σ2 ρ2) H3 d x)/\(l.length<=i->J.stop i H2)
abbrev FnI(S:Type):=FnA S
def tI{S:Type}{W:Wd S}(c:Dx W)(f:FnI S):TI:=λσ H R=>∃ρ st,Rep c H σ ρ/\W.ok st H/\
 wpR (f ρ st) (λl st'=>∀J H',Ext W H H'->W.ok st' H'->xj4 c σ ρ H' J l->R J H') λx st'=>∀H',Ext W H H'->W.ok st' H'->c.Ex x st' H'
def DI(X:Cx){S:Type}{W:Wd S}(c:Dx W)(tg iter:Expr)(f:FnI S):Prop:=PI X tg iter (tI c f)
def PI.imp(h:PI X tg e t)(i:∀σ H R,t' σ H R->t σ H R):PI X tg e t':=λA3 s σ H R I q=>h A3 s σ H R I (i σ H R q)
section
variable{X:Cx}{S:Type}{W:Wd S}{c:Dx W}{tg:Expr}
def vh9(S:Type)(sel:D->Option (List D))(f:Fn S):FnI S:=λρ st=>(f ρ st).bind λd st1=>ww7 (sel d) st1
def D.tup?:D->Option (List D)
 | .tup l=>some l
 | _=>none
def D.lst?:D->Option (List D)
 | .lst l=>some l
 | _=>none
def wf6(hK:c.K=X.K)(h:DE X c .B e f):DI X c tg e (vh9 S D.tup? f):=
 (wp7 h).imp λσ H R hI18=>by
  obtain⟨ρ,st,R0,ok,w⟩:=hI18;refine⟨ρ,st,R0,ok,za8 (za4.mp w) (λd st1 q v H1 e ok1 z=>?_) λx st1 q=>q⟩;obtain⟨l,e1,q⟩:=zb4.mp q;cases d with
  | tup m=>
    cases e1;obtain⟨a,vs,ev,s0,i⟩:=Is.tup_iff.mp z;have s:SqT c.K H1 a vs:=.of s0;refine⟨a,ev,⟨vs,by rw[<-hK];exact s⟩,q _ H1 e ok1 ?_⟩;intro c' hK' σ2 ρ2 H2 st2 k R2 ok2 j;have s2:SqT c.K H2 a vs:=.of (k.tup a vs s0);have i2:IsL c.K (Av c' σ2 ρ2) H2 l vs:=i.mono k;refine⟨λd hd=>?_,λhl=>⟨vs,by rw[<-hK];exact s2,by rw[<-i2.length];exact hl⟩⟩;obtain⟨v1,hv,iv⟩:=i2.get hd;exact⟨⟨vs,v1,by rw[<-hK];exact s2,hv⟩,λx H3 hI19=>by
     obtain⟨e3,y⟩:=hI19;subst e3;have hx:=y vs (by rw[<-hK];exact s2);rw[hv] at hx;cases hx;exact⟨wx4.refl _,iv⟩⟩
  | _=>cases e1
def wt4(hK:c.K=X.K)(h:DE X c .B e f):DI X c tg e (vh9 S D.lst? f):=
 (wi7 h).imp λσ H R hI20=>by
  obtain⟨ρ,st,R0,ok,w⟩:=hI20;refine⟨ρ,st,R0,ok,za8 (za4.mp w) (λd st1 q v H1 e ok1 z=>?_) λx st1 q=>q⟩;obtain⟨l,e1,q⟩:=zb4.mp q;cases d with
  | lst m=>
    cases e1;obtain⟨a,vs,ev,n,s,i⟩:=Is.lst_iff.mp z;refine⟨a,ev,⟨vs,.of s⟩,q _ H1 e ok1 ?_⟩;intro c' hK' σ2 ρ2 H2 st2 k R2 ok2 j;have s2:H2 a=some (.lst vs):=(k.nod a _ n s).2;have i2:IsL c.K (Av c' σ2 ρ2) H2 l vs:=i.mono k;refine⟨λd hd=>?_,λhl=>⟨vs,.of s2,by rw[<-i2.length];exact hl⟩⟩;obtain⟨v1,hv,iv⟩:=i2.get hd;exact⟨⟨vs,v1,.of s2,hv⟩,λx H3 hI21=>by
     obtain⟨e3,y⟩:=hI21;subst e3;have hx:=y vs (.of s2);rw[hv] at hx;cases hx;exact⟨wx4.refl _,iv⟩⟩
  | _=>cases e1
def zq2(lo:Int)(n:Nat):List D:=(List.range n).map λ(k:Nat)=>D.int (lo+(k:Int))
def xa7:List D->Option (List D)
 | [.int j]=>if -(2 ^ 62)<=j/\j<2 ^ 62 then some (zq2 0 j.toNat) else none
 | _=>none
def vc7(S:Type)(o:List D->Option (List D))(f:FnA S):FnI S:=λρ st=>(f ρ st).bind λl st1=>ww7 (o l) st1
def xm5(lo:Int)(n:Nat):xj4 c σ ρ H (Itr lo n) (zq2 lo n):=by
 intro c' hK' σ2 ρ2 H2 st2 k R2 ok2 j;refine⟨λd hd=>?_,λhl=>?_⟩
 ·unfold zq2 at hd
  rw[Ag0] at hd;cases q:(List.range n)[j]? with
  | none=>rw[q] at hd;cases hd
  | some m=>
    rw[q] at hd;cases hd;obtain⟨h1,h2⟩:=Ac0.mp q;rw[List.getElem_range] at h2;subst h2;rw[List.length_range] at h1;exact⟨h1,λx H3 ⟨e3,e4⟩=>by subst e3 e4;exact⟨wx4.refl _,Is.int_iff.mpr rfl⟩⟩
 ·unfold zq2 at hl
  rw[Aa0,List.length_range] at hl;exact hl
open H in
def zg1{a:Expr}{f:FnA S}{p pos:Pos}(hg:Gl X "range")(hm:X.mg "range" = none)(ha:DA X c [a] f)(hs:starEach [a] X.env=[(false,eval a X.env)]:=by rfl):DI X c tg (.Call (.Name "range" p) [a] [] pos) (vc7 S xa7 f):=
 (xq8 hg hm ha hs).imp λσ H R hI22=>by
  obtain⟨ρ,st,R0,ok,w⟩:=hI22;refine⟨ρ,st,R0,ok,za8 (za4.mp w) (λl st1 q vs H1 e ok1 z=>?_) λx st1 q=>q⟩;obtain⟨m,e1,q⟩:=zb4.mp q;unfold xa7 at e1;split at e1
  ·rename_i j
   split at e1
   ·rename_i h
    cases e1;obtain⟨v,r,e2,i2,i3⟩:=IsL.cons.mp z;rw[IsL.nil.mp i3,Is.int_iff.mp i2] at e2;exact⟨j,e2,h.1,h.2,q _ H1 e ok1 (xm5 0 _)⟩
   ·cases e1
  ·cases e1
def frz1(i:Nat)(ρ:Rho):Rho:=match ρ[i]? with
 | some (.own d)=>ρ.set i (.bor d)
 | _=>ρ
def frz:List Nat->Rho->Rho
 | [],ρ=>ρ
 | i::r,ρ=>frz r (frz1 i ρ)
open H in
def Rep.frz1{H:Hp}{σ:St}{ρ:Rho}{st:S}(i:Nat)(R:Rep c H σ ρ)(ok:W.ok st H):Rep c H σ (frz1 i ρ)/\Frm c H σ ρ H σ (L2.frz1 i ρ):=by
 unfold L2.frz1;split
 ·rename_i d hi
  obtain⟨a,e1,n,f,t⟩:=R.slot i _ hi;have e1':=zl2 e1;have hlt:i<ρ.length:=(Ac0.mp hi).1;have sub:∀b,Ow σ (ρ.set i (.bor d)) b->Ow σ ρ b/\b≠a:=λb hI23=>by
   obtain⟨j,e,h1,h2⟩:=hI23;rcases zb6 h1 with⟨_,z⟩ | ⟨nj,z⟩
   ·cases z
   ·refine⟨⟨j,e,z,h2⟩,λq=>?_⟩
    subst q;exact nj (R.uniq j i b e d z hi h2 e1')
  have k:ww5 (Av c σ ρ) (Av c σ (ρ.set i (.bor d))) H H:=⟨λ_ _ z _=>z,λb o a z=>⟨⟨a.1,λw=>a.2.1 (sub b w).1,a.2.2⟩,z⟩⟩;refine⟨⟨by rw[Bu0];exact R.len,R.frame,λj s hs=>?_,R.avl,λj j' b e e' h1 h2 h3 h4=>?_⟩,⟨λb o h _ _=>h,λb o _ _ w=>(sub b w).1⟩⟩
  ·rcases zb6 hs with⟨ej,z⟩ | ⟨nj,z⟩
   ·subst z ej
    exact⟨_,e1,(t.mono k λo z=>z).isTop ⟨n.1,λw=>(sub a w).2 rfl,n.2⟩⟩
   ·have q:=R.slot j s z
    cases s with
    | no=>trivial
    | bor e=>obtain⟨v',e1,i1⟩:=q;exact⟨v',e1,i1.mono k⟩
    | own e=>obtain⟨b,e1,n1,f,t⟩:=q;exact⟨b,e1,n1,f,t.mono k λo z=>z⟩
    | hnd=>exact q
  ·rcases zb6 h1 with⟨_,z⟩ | ⟨_,z⟩
   ·cases z
   ·rcases zb6 h2 with⟨_,z'⟩ | ⟨_,z'⟩
    ·cases z'
    ·exact R.uniq j j' b e e' z z' h3 h4
 ·exact⟨R,Frm.refl⟩
theorem Rep.frz{H:Hp}{σ:St}{st:S}(ok:W.ok st H):∀(l:List Nat) {ρ:Rho},Rep c H σ ρ->Rep c H σ (L2.frz l ρ)/\Frm c H σ ρ H σ (L2.frz l ρ)
 | [],ρ,R=>⟨R,Frm.refl⟩
 | i::r,ρ,R=>by
   obtain⟨R1,F1⟩:=R.frz1 i ok;obtain⟨R2,F2⟩:=Rep.frz ok r R1;exact⟨R2,F1.trans F2⟩
def vf1(S:Type)(G:FnG)(B:FnS S):List D->FnS S
 | [],ρ,st=>.ok (.nx ρ) st
 | d::r,ρ,st=>(ww7 (G d ρ) st).bind λρ1 st1=>(B ρ1 st1).bind λfl st2=>match fl with
   | .nx ρ2=>vf1 S G B r ρ2 st2
   | .ct ρ2=>vf1 S G B r ρ2 st2
   | .bk ρ2=>.ok (.nx ρ2) st2
   | .rt d=>.ok (.rt d) st2
def vu0(S:Type)(fz:List Nat)(f:FnI S)(G:FnG)(B:FnS S):FnS S:=λρ st=>(f (frz fz ρ) st).bind λl st1=>vf1 S G B l (frz fz ρ) st1
def zj8{iter:Expr}{body:List Stmt}{f:FnI S}{G:FnG}{B:FnS S}{pos:Pos}(fz:List Nat)(hp:PassesOwn (model X.prog X.w) X.A X.env X.xe)(hc:X.calm=true)(hi:DI X c tg iter f)(hg:DG X c tg G)(hb:DSs X c body B)(hs:∀x,foldedSetIterable iter X.env x=pure x:=by intro _;rfl):DS X c (.For tg iter body [] pos) (vu0 S fz f G B):=
 (wp3 hp hc hi hg hb hs).imp λD σ H hI24=>by
  obtain⟨ρ,st,R,ok,w⟩:=hI24;obtain⟨Rf,Ff⟩:=R.frz ok fz;refine⟨frz fz ρ,st,Rf,ok,za8 (za4.mp w) (λl st1 q J H1 e ok1 it=>?_) λx st1 q H1 e ok1=>q H1 (e.f0 R) ok1⟩;have R1:=Rf.ext ok e;refine⟨λi m σ2 H2=>∃ρ2 st2,i<=l.length/\m=l.length-i/\Frm c H1 σ (frz fz ρ) H2 σ2 ρ2/\Rep c H2 σ2 ρ2/\W.ok st2 H2/\wpR (vf1 S G B (l.drop i) ρ2 st2) (wz0 c D σ2 ρ2 H2) (vg2 c),⟨l.length,frz fz ρ,st1,Bb0 _,rfl,Frm.refl,R1,ok1,?_⟩,?_⟩
  ·rw[List.drop_zero]
   exact za8 q (λfl st2 q=>(q.from Ff).from e.frm) λx st2 q=>q
  ·rintro i m σ2 H2 ⟨ρ2,st2,hle,rfl,F2,R2,ok2,w2⟩
   obtain⟨h1,h2⟩:=it c rfl σ2 ρ2 H2 st2 (F2.keepT R1 ok1) R2 ok2 i;by_cases hlt:i<l.length
   ·have hd:l[i]?=some l[i]:=Ad0 hlt
    obtain⟨go,yl⟩:=h1 _ hd;rw[List.drop_eq_getElem_cons hlt] at w2;refine .inr ⟨go,λσ3 H3=>∃ρ3 st3,Frm c H1 σ (frz fz ρ) H3 σ3 ρ3/\Rep c H3 σ3 ρ3/\W.ok st3 H3/\wpR (vf1 S G B (l.drop (i+1)) ρ3 st3) (wz0 c D σ3 ρ3 H3) (vg2 c),λσ3 H3 ⟨ρ3,st3,F3,R3,ok3,w3⟩=>⟨l.length-(i+1),by omega,ρ3,st3,hlt,rfl,F3,R3,ok3,w3⟩,λx H3 y=>?_⟩;obtain⟨sm,iv⟩:=yl x H3 y;have ex:Ext W H2 H3:=sm.ext;have ok3:W.ok st2 H3:=W.stay st2 H2 H3 ok2 λb o _ hb=>sm b o hb
    have R3:=R2.ext ok2 ex;obtain⟨ρ4,e4,w4⟩:=zb4.mp (za4.mp w2);refine⟨ρ2,_,ρ4,st2,R3,ok3,iv,e4,λσ4 R4 F4=>?_⟩;have F24:Frm c H2 σ2 ρ2 H3 σ4 ρ4:=ex.frm.trans F4;refine⟨ρ4,st2,R4,ok3,za8 (za4.mp w4) (λfl st5 q5=>?_) λx st5 q=>q⟩;have nxt:∀ρ5,wpR (vf1 S G B (l.drop (i+1)) ρ5 st5) (wz0 c D σ2 ρ2 H2) (vg2 c)->Nx c (λσ3 H3=>∃ρ3 st3,Frm c H1 σ (frz fz ρ) H3 σ3 ρ3/\Rep c H3 σ3 ρ3/\W.ok st3 H3/\wpR (vf1 S G B (l.drop (i+1)) ρ3 st3) (wz0 c D σ3 ρ3 H3) (vg2 c)) σ4 ρ4 H3 ρ5 st5:=
     λρ5 q5 σ5 H5 F5 ok5 R5=>⟨ρ5,st5,F2.trans (F24.trans F5),R5,ok5,za8 q5 (λfl st6 q=>q.from (F24.trans F5)) λx st6 q=>q⟩
    cases fl with
    | nx ρ5=>exact nxt ρ5 q5
    | ct ρ5=>exact nxt ρ5 q5
    | bk ρ5=>exact λσ5 H5 F5 ok5 R5=>q5 σ5 H5 (F24.trans F5) ok5 R5
    | rt d=>exact q5
   ·have e0:i=l.length:=by omega
    subst e0;rw[List.drop_length] at w2;exact .inl ⟨h2 (Al0 _),w2 σ2 H2 Frm.refl ok2 R2⟩
end
theorem zg9:∀{l m:List D},D.immL l=true->D.immL m=true->D.immL (l++m)=true
 | [],_,_,h=>h
 | d::l,m,h,k=>by
   have h':d.imm=true/\D.immL l=true:=by simpa [D.immL] using h
   show (d.imm&&D.immL (l++m))=true;rw[h'.1,zg9 h'.2 k];rfl
abbrev Dx.avoid{S:Type}{W:Wd S}(c:Dx W)(av:Addr->Prop):Dx W:=⟨c.K,c.H0,c.Ex,av⟩
def pickR(ρ:Rho)(ixs:List (Option Nat)):Rho:=ixs.map λo=>match o with
 | some i=>(match ρ[i]? with
   | some (.bor d)=>.bor d
   | some (.own d)=>.bor d
   | some .hnd=>.hnd
   | _=>.no)
 | none=>.no
section
variable{S:Type}{W:Wd S}{c:Dx W}{H H1:Hp}{σ:St}{ρ:Rho}{st:S}
theorem yf5:¬Ow σ' (pickR ρ ixs) b:=λhI25=>by
 obtain⟨j,d,h,_⟩:=hI25;unfold pickR at h;rw[Ag0] at h;cases q:ixs[j]? with
 | none=>rw[q] at h;cases h
 | some o=>
   rw[q] at h;cases o with
   | none=>cases h
   | some i=>
     have h:(match ρ[i]? with | some (.bor d)=>Sl.bor d | some (.own d)=>.bor d | some .hnd=>.hnd | _=>.no)=Sl.own d:=Option.some.inj h;split at h<;>cases h
def Rep.pick{D:Addr}(R:Rep c H σ ρ)(ok:W.ok st H)(hD:H D=none)(ixs:List (Option Nat)):Rep (c.avoid λb=>c.av b\/b=D) (upd H D (.lst [])) (L2.pick σ ixs) (pickR ρ ixs) where
 len:=by unfold L2.pick pickR;rw[Aa0,Aa0]
 frame:=λb o h n=>by
  have e:H b=some o:=R.frame b o h n;show upd H D _ b=some o;rw[za9 (zb1 e hD)];exact e
 uniq:=λi j a d e h1 _ _ _=>(yf5 (σ':=L2.pick σ ixs) (ρ:=ρ) (ixs:=ixs) (b:=a) ⟨i,d,h1,by assumption⟩).elim
 avl:=λb h=>by
  rcases h with h | h
  ·obtain⟨n,z,o,h',q⟩:=R.avl b h
   exact⟨n,z,o,by show upd H D _ b=some o;rw[za9 (zb1 h' hD)];exact h',q⟩
  ·subst h
   exact⟨zn7 ok hD,R.none0 ok hD,_,zb3,(λu z=>by cases z),λob u z=>by cases z⟩
 slot:=λj s hs=>by
  unfold pickR at hs;rw[Ag0] at hs;have kk:∀{A:Addr->Prop},(∀b,A b->¬W.mv b/\¬c.av b)->ww5 A (Av (c.avoid λb=>c.av b\/b=D) (L2.pick σ ixs) (pickR ρ ixs)) H (upd H D (.lst [])):=λ{A} hA=>
   zj3 (λb o e _=>by rw[za9 (zb1 e hD)];exact e) λb o a e=>⟨⟨(hA b a).1,yf5,λw=>w.elim (hA b a).2 (λz=>by subst z;rw[hD] at e;cases e)⟩,by rw[za9 (zb1 e hD)];exact e⟩
  cases q:ixs[j]? with
  | none=>rw[q] at hs;cases hs
  | some o=>
    rw[q] at hs;have ej:(L2.pick σ ixs)[j]?=(ixs[j]?).map (λo=>match o with | some i=>(σ[i]?).join | none=>none):=by
     unfold L2.pick;rw[Ag0]
     all_goals rfl
    rw[ej,q];cases o with
    | none=>cases hs;trivial
    | some i=>
      have hs:(match ρ[i]? with | some (.bor d)=>Sl.bor d | some (.own d)=>.bor d | some .hnd=>.hnd | _=>.no)=s:=Option.some.inj hs;show wg1 _ _ _ (σ[i]?).join s;cases h:ρ[i]? with
      | none=>rw[h] at hs;cases hs;trivial
      | some s'=>
        rw[h] at hs;have z:=R.slot i s' h;cases s' with
        | no=>cases hs;trivial
        | hnd=>cases hs;exact z
        | bor d=>cases hs;obtain⟨v,e1,i1⟩:=z;exact⟨v,e1,i1.mono (kk λb a=>⟨a.1,a.2.2⟩)⟩
        | own d=>
          cases hs;obtain⟨a,e1,n,f,t⟩:=z;refine⟨.ref a,e1,?_⟩;have t':=t.mono (c:=c) (kk λb a=>⟨a.1,a.2.2⟩) λo z=>by rw[za9 (zb1 z hD)];exact z
          obtain⟨o,ho,_⟩:=t.there;exact Top.isTop (c:=c) ⟨n.1,yf5,λw=>w.elim n.2 (λz=>by subst z;rw[hD] at ho;cases ho)⟩ t'
end
def wy9(S:Type)(G:FnG)(t:FnT S)(e:Fn S):List D->List D->Rho->S->Res S (List D)
 | [],acc,_,st=>.ok acc st
 | d::r,acc,ρ,st=>(ww7 (G d ρ) st).bind λρ1 st1=>(t ρ1 st1).bind λb st2=>if b=true then
    (e ρ1 st2).bind λy st3=>if y.imm=true/\acc.length<sizeLine then wy9 S G t e r (acc++[y]) ρ1 st3 else .bad
   else wy9 S G t e r acc ρ1 st2
def vf2(S:Type)(fz:List Nat)(ixs:List (Option Nat))(f:FnI S)(G:FnG)(t:FnT S)(e:Fn S):Fn S:=λρ st=>(f (frz fz ρ) st).bind λl st1=>(wy9 S G t e l [] (pickR (frz fz ρ) ixs) st1).bind λr st2=>.ok (.lst r) st2
def DTs(X:Cx){S:Type}{W:Wd S}(c:Dx W)(ifs:List Expr)(t:FnT S):Prop:=PTs X ifs (tDT c t)
def PTs.imp(h:PTs X e t)(i:∀σ H Q,t' σ H Q->t σ H Q):PTs X e t':=λA3 s σ H Q I q=>h A3 s σ H Q I (i σ H Q q)
def vh2(S:Type):FnT S:=λ_ st=>.ok true st
def zo0{X:Cx}{S:Type}{W:Wd S}{c:Dx W}:DTs X c [] (vh2 S):=wi3.imp λσ H Q ⟨ρ,st,R,ok,w⟩=>w H Ext.refl ok
def yr5{X:Cx}{S:Type}{W:Wd S}{c:Dx W}{e:Expr}{t:FnT S}(h:DT X c e t):DTs X c [e] t:=wi2 h
section
variable{X:Cx}{S:Type}{W:Wd S}{c:Dx W}{N':List Str}{ixs:List (Option Nat)}{scope:Scope}{tg iter elt:Expr}{ifs:List Expr}{f:FnI S}{G:FnG}{t:FnT S}{e:Fn S}{pos:Pos}{g:Gr}
def gEx{S:Type}{W:Wd S}(c:Dx W)(G:FnG):TG:=λv σ H Q=>∃av,tG (c.avoid av) G v σ H Q
def tEx{S:Type}{W:Wd S}(c:Dx W)(t:FnT S):TT:=λσ H Q=>∃av,tDT (c.avoid av) t σ H Q
def eEx{S:Type}{W:Wd S}(c:Dx W)(e:Fn S):TE:=λσ H Q=>∃av,tD (c.avoid av) .R e σ H Q
def ub7(S:Type){W:Wd S}(c:Dx W)(G:FnG)(t:FnT S)(e:Fn S)(l:List D)(A:Addr)(H1:Hp)(Pq:D->S->Prop)(Pe:Exn->S->Prop)(i:Nat)(σ2:St)(H2:Hp):Prop:=
 ∃ρ2 st2 acc ys,Rep (c.avoid λb=>c.av b\/b=A) H2 σ2 ρ2/\(∀b,¬Ow σ2 ρ2 b)/\W.ok st2 H2/\Ext W H1 H2/\H2 A=some (.lst ys)/\D.immL acc=true/\IsL c.K (λ_=>False) H2 acc ys/\
  wpR ((wy9 S G t e (l.drop i) acc ρ2 st2).bind λr st2=>.ok (.lst r) st2) Pq Pe
def cPq(S:Type){W:Wd S}(c:Dx W)(g:Gr)(σ:St)(ρ:Rho)(H:Hp)(Q:VK):D->S->Prop:=λd st'=>∀v H',Ext W H H'->W.ok st' H'->Val c g σ ρ H H' d v->Q v H'
def cPe(S:Type){W:Wd S}(c:Dx W)(H:Hp):Exn->S->Prop:=λx st'=>∀H',Ext W H H'->W.ok st' H'->c.Ex x st' H'
def xo7{fz:List Nat}(h:tD c g (vf2 S fz ixs f G t e) σ H Q):vk1 (tI c f) ixs (gEx c G) (tEx c t) (eEx c e) σ H Q:=by
 obtain⟨ρ,st,R,ok,w⟩:=h;obtain⟨Rf,Ff⟩:=R.frz ok fz;refine⟨frz fz ρ,st,Rf,ok,za8 (za4.mp w) (λl st1 q J H1 e1 ok1 it=>?_) λx st1 q=>q⟩;have R1:=R.ext ok e1;have Rf1:=Rf.ext ok e1;intro A hA;have hAm:¬W.mv A:=zn7 ok1 hA;have hA0:H A=none:=e1.none ok1 hA;refine⟨λi m σ2 H2=>i<=l.length/\m=l.length-i/\ub7 S c G t e l A H1 (cPq S c g σ ρ H Q) (cPe S c H) i σ2 H2,⟨l.length,Bb0 _,rfl,pickR (frz fz ρ) ixs,st1,[],[],Rf1.pick ok1 hA ixs,λb=>yf5,zg7 ok1 hA,Ext.laid hA,zb3,rfl,IsL.nil.mpr rfl,by rw[List.drop_zero];exact q⟩,?_⟩;intro i m σ2 H2 hI;obtain⟨hle,rfl,ρ2,st2,acc,ys,R2,no2,ok2,x2,hA2,im,il,w2⟩:=hI;have k2:ww5 (Av c σ (frz fz ρ)) (Av (c.avoid λb=>c.av b\/b=A) σ2 ρ2) H1 H2:=zj3 (λb o h tt=>x2 b o h λm=>by
  obtain⟨o',h',n1,n2⟩:=W.live st1 H1 b ok1 m;rw[h] at h';cases h';rcases tt with⟨u,z⟩ | ⟨ob,u,z⟩
  ·exact n1 u z
  ·exact n2 ob u z) λb o a h=>⟨⟨a.1,no2 b,λw=>w.elim a.2.2 (λz=>by subst z;rw[hA] at h;cases h)⟩,x2 b o h a.1⟩
 obtain⟨h1,h2⟩:=it (c.avoid λb=>c.av b\/b=A) rfl σ2 ρ2 H2 st2 k2 R2 ok2 i;by_cases hlt:i<l.length
 ·have hd:l[i]?=some l[i]:=Ad0 hlt
  obtain⟨go,yl⟩:=h1 _ hd;rw[List.drop_eq_getElem_cons hlt] at w2;refine .inr ⟨go,λσ3 H3=>ub7 S c G t e l A H1 (cPq S c g σ ρ H Q) (cPe S c H) (i+1) σ3 H3,λσ3 H3 hh=>⟨l.length-(i+1),by omega,hlt,rfl,hh⟩,λx H3 y=>?_⟩;obtain⟨sm,iv⟩:=yl x H3 y;have ex:Ext W H2 H3:=sm.ext;have ok3:W.ok st2 H3:=W.stay st2 H2 H3 ok2 λb o _ hb=>sm b o hb
  have R3:=R2.ext (c:=c.avoid λb=>c.av b\/b=A) ok2 ex;have w2:wpR (((ww7 (G l[i] ρ2) st2).bind λρ1 st1=>(t ρ1 st1).bind λb st2=>if b=true then
   (e ρ1 st2).bind λy st3=>if y.imm=true/\acc.length<sizeLine then wy9 S G t e (l.drop (i+1)) (acc++[y]) ρ1 st3 else .bad
   else wy9 S G t e (l.drop (i+1)) acc ρ1 st2).bind λr st2=>.ok (.lst r) st2) (cPq S c g σ ρ H Q) (cPe S c H):=w2
  obtain⟨ρ4,e4,w4⟩:=zb4.mp (za4.mp (za4.mp w2));refine⟨(λb=>c.av b\/b=A),ρ2,_,ρ4,st2,R3,ok3,iv,e4,λσ4 R4 F4=>?_⟩;have no4:∀b,¬Ow σ4 ρ4 b:=λb wb=>by
   obtain⟨n,_,o,ho,_⟩:=R4.owOk wb;exact no2 b (F4.own b o ho n wb)
  refine⟨(λb=>c.av b\/b=A),ρ4,st2,R4,ok3,za8 (za4.mp w4) (λb st5 q5 H5 x5 ok5=>?_) λx st5 q H5 x5 ok5=>q H5 ((e1.trans x2).trans (ex.trans x5)) ok5⟩;have R5:=R4.ext (c:=c.avoid λb=>c.av b\/b=A) ok3 x5;have hA5:H5 A=some (.lst ys):=x5 A _ (sm A _ hA2) hAm;cases b with
  | false=>
    exact⟨ρ4,st5,acc,ys,R5,no4,ok5,x2.trans (ex.trans x5),hA5,im,(il.ext ex ok2 λ_ z=>z.elim).ext x5 ok3 λ_ z=>z.elim,za4.mpr q5⟩
  | true=>
    refine⟨(λb=>c.av b\/b=A),ρ4,st5,R5,ok5,za8 (za4.mp q5) (λy st6 q6 v H6 x6 ok6 z6=>?_) λx st6 q H6 x6 ok6=>q H6 ((e1.trans x2).trans (ex.trans (x5.trans x6))) ok6⟩;by_cases hy:y.imm=true/\acc.length<sizeLine
    ·rw[if_pos hy] at q6
     have hA6:H6 A=some (.lst ys):=x6 A _ hA5 hAm;have il6:IsL c.K (λ_=>False) H6 acc ys:=((il.ext ex ok2 λ_ z=>z.elim).ext x5 ok3 λ_ z=>z.elim).ext x6 ok5 λ_ z=>z.elim
     refine⟨ys,hA6,by rw[<-il6.length];exact hy.2,ρ4,st6,acc++[y],ys++[v],?_,no4,?_,?_,zb3,?_,?_,za4.mpr q6⟩
     ·-- the slots do not see the list
      have R6:=R5.ext (c:=c.avoid λb=>c.av b\/b=A) ok5 x6;have nA:∀b,Av (c.avoid λb=>c.av b\/b=A) σ4 ρ4 b->b≠A:=λb a z=>a.2.2 (.inr z)
      have k:ww5 (Av (c.avoid λb=>c.av b\/b=A) σ4 ρ4) (Av (c.avoid λb=>c.av b\/b=A) σ4 ρ4) H6 (upd H6 A (.lst (ys++[v]))):=zj3 (λb o h tt=>by
       have hb:b≠A:=λz=>by
        subst z;rw[hA6] at h;cases h;rcases tt with⟨u,z⟩ | ⟨ob,u,z⟩<;>cases z
       rw[za9 hb];exact h) λb o a h=>⟨a,by rw[za9 (nA b a)];exact h⟩
      refine⟨R6.len,λb o h n=>?_,λj s hs=>?_,λb h=>?_,R6.uniq⟩
      ·have hb:b≠A:=λz=>by
        subst z;have:=(R6.avl b (.inr rfl)).2.1;rw[show (c.avoid λb'=>c.av b'\/b'=b).H0 b=c.H0 b from rfl] at this;rw[this] at h;cases h
       rw[za9 hb];exact R6.frame b o h n
      ·have qs:=R6.slot j s hs
       cases s with
       | no=>trivial
       | bor d=>obtain⟨v',e1,i1⟩:=qs;exact⟨v',e1,i1.mono k⟩
       | own d=>obtain⟨a,ea,_,_,_⟩:=qs;exact(no4 a ⟨j,d,hs,zl2 ea⟩).elim
       | hnd=>exact qs
      ·obtain⟨n,z,o,h',qq⟩:=R6.avl b h
       by_cases hb:b=A
       ·subst hb
        exact⟨n,z,_,zb3,(λu z=>by cases z),λob u z=>by cases z⟩
       ·exact⟨n,z,o,by rw[za9 hb];exact h',qq⟩
     ·exact W.stay st6 H6 _ ok6 λb o m h=>by
       have hb:b≠A:=λz=>hAm (z▸m)
       rw[za9 hb];exact h
     ·intro b o h n
      have hb:b≠A:=λz=>by subst z;rw[hA] at h;cases h
      rw[za9 hb];exact((x2.trans (ex.trans (x5.trans x6))) b o h n)
     ·exact zg9 im (by simp[D.immL,hy.1])
     ·have z6':Is c.K (λ_=>False) H6 y v:=Is.ofImm hy.1 z6
      have kk:ww5 (λ_=>False) (λ_=>False) H6 (upd H6 A (.lst (ys++[v]))):=zj3 (λb o h tt=>by
       have hb:b≠A:=λz=>by
        subst z;rw[hA6] at h;cases h;rcases tt with⟨u,z⟩ | ⟨ob,u,z⟩<;>cases z
       rw[za9 hb];exact h) λb o a h=>a.elim
      exact(il6.append (IsL.one z6')).mono kk
    ·rw[if_neg hy] at q6;exact q6.elim
 ·have e0:i=l.length:=by omega
  subst e0;rw[List.drop_length] at w2;refine .inl ⟨h2 (Al0 _),w2 (.ref A) H2 (e1.trans x2) ok2 (New.val R ?_ g)⟩;exact Is.lst ⟨hAm,hA0⟩ hA2 (IsL.ofImm im il)
def zk4(fz:List Nat)(CS:zj5 X N' ixs scope)(hc:X.calm=true)(hi:DI X c tg iter f)(hin:∀av cl C s H fp,DG (zh4 X N' scope cl C s H fp) (c.avoid av) tg G/\DTs (zh4 X N' scope cl C s H fp) (c.avoid av) ifs t/\DE (zh4 X N' scope cl C s H fp) (c.avoid av) .R elt e)(hs:∀x,foldedSetIterable iter X.env x=pure x:=by intro _;rfl):DE X c g (.ListComp elt [⟨tg,iter,ifs,0⟩] scope pos) (vf2 S fz ixs f G t e):=
 (wi8 (g:=gEx c G) (tc:=tEx c t) (te:=eEx c e) CS hc hi (λcl C s H fp=>
  ⟨λA3 s' σ H' v u Q I r ⟨av,q⟩=>(hin av cl C s H fp).1 A3 s' σ H' v u Q I r q,λA3 s' σ H' Q I ⟨av,q⟩=>(hin av cl C s H fp).2.1 A3 s' σ H' Q I q,λA3 s' σ H' Q I ⟨av,q⟩=>(hin av cl C s H fp).2.2 A3 s' σ H' Q I q⟩) hs).imp λσ H Q q=>xo7 (g:=g) q
def xu6{i:Nat}{y:Str}{py spos:Pos}(fz:List Nat)(CS:zj5 X N' ixs scope)(hc:X.calm=true)(hN:X.N.Nodup)(hy0:X.N[i]?=some y)(hy:X.env.scope.names.lookup y=some .local)(hi:DI X c tg iter f)(hin:∀av cl C s H fp,DG (zh4 X N' scope cl C s H fp) (c.avoid av) tg G/\DTs (zh4 X N' scope cl C s H fp) (c.avoid av) ifs t/\DE (zh4 X N' scope cl C s H fp) (c.avoid av) .R elt e)(hsw:swapsWith (.ListComp elt [⟨tg,iter,ifs,0⟩] scope pos) (some (.Name y py)) spos.line X.env=pure true)(hs:∀x,foldedSetIterable iter X.env x=pure x:=by intro _;rfl):DS X c (.Assign [.Name y py] (.ListComp elt [⟨tg,iter,ifs,0⟩] scope pos) spos) (vm8 S i (vf2 S fz ixs f G t e)):=
 (wi5 (g:=gEx c G) (tc:=tEx c t) (te:=eEx c e) CS hc hN hy0 hy hi (λcl C s H fp=>
  ⟨λA3 s' σ H' v u Q I r ⟨av,q⟩=>(hin av cl C s H fp).1 A3 s' σ H' v u Q I r q,λA3 s' σ H' Q I ⟨av,q⟩=>(hin av cl C s H fp).2.1 A3 s' σ H' Q I q,λA3 s' σ H' Q I ⟨av,q⟩=>(hin av cl C s H fp).2.2 A3 s' σ H' Q I q⟩) hsw hs).imp λD σ H q=>xo7 (g:=.F) (xo6 q)
def zj6(S:Type)(t:FnT S)(B:FnS S):Nat->FnS S
 | 0,_,_=>.bad
 | n+1,ρ,st=>(t ρ st).bind λb st1=>if b=true then (B ρ st1).bind λfl st2=>match fl with
    | .nx ρ2=>zj6 S t B n ρ2 st2
    | .ct ρ2=>zj6 S t B n ρ2 st2
    | .bk ρ2=>.ok (.nx ρ2) st2
    | .rt d=>.ok (.rt d) st2
   else .ok (.nx ρ) st1
open Classical in
def ym0(S:Type)(t:FnT S)(B:FnS S):FnS S:=λρ st=>if h:∃n,zj6 S t B n ρ st≠.bad then zj6 S t B h.choose ρ st else .bad
theorem zr3:∀(n k:Nat) (ρ:Rho) (st:S),zj6 S t B n ρ st≠.bad->zj6 S t B (n+k) ρ st=zj6 S t B n ρ st
 | 0,_,_,_,h=>(h rfl).elim
 | n+1,k,ρ,st,h=>by
   rw[show n+1+k=(n+k)+1 by omega];unfold zj6 at h ⊢;cases q:t ρ st with
   | bad=>rfl
   | exc x s=>rfl
   | ok b st1=>
     rw[q] at h;simp only[Res.bind_ok] at h ⊢;cases b with
     | false=>rfl
     | true=>
       simp only[if_true] at h ⊢;cases q2:B ρ st1 with
       | bad=>rfl
       | exc x s=>rfl
       | ok fl st2=>
         rw[q2] at h;simp only[Res.bind_ok] at h ⊢;cases fl with
         | nx ρ2=>exact zr3 n k ρ2 st2 h
         | ct ρ2=>exact zr3 n k ρ2 st2 h
         | bk ρ2=>rfl
         | rt d=>rfl
def yu2{t:FnT S}{B:FnS S}{n:Nat}{ρ:Rho}{st:S}(h:zj6 S t B n ρ st≠.bad):ym0 S t B ρ st=zj6 S t B n ρ st:=by
 unfold ym0;have hx:∃n,zj6 S t B n ρ st≠.bad:=⟨n,h⟩;rw[dif_pos hx];have h1:=zr3 n hx.choose ρ st h;have h2:=zr3 hx.choose n ρ st hx.choose_spec;rw[Nat.add_comm] at h2;exact h2.symm.trans h1
def xi6{test:Expr}{body:List Stmt}{t:FnT S}{B:FnS S}(hp:PassesOwn (model X.prog X.w) X.A X.env X.xe)(ht:DT X c test t)(hb:DSs X c body B):DS X c (.While test body [] pos) (ym0 S t B):=
 (xz2 hp ht hb).imp λD σ H hI26=>by
  obtain⟨ρ,st,R,ok,w⟩:=hI26;have hx:∃n,zj6 S t B n ρ st≠.bad:=by
   apply Classical.byContradiction;intro h;unfold ym0 at w;rw[dif_neg h] at w;exact w
  obtain⟨n,hn⟩:=hx;rw[yu2 hn] at w;refine⟨λm σ2 H2=>∃ρ2 st2,Rep c H2 σ2 ρ2/\W.ok st2 H2/\wpR (zj6 S t B m ρ2 st2) (wz0 c D σ2 ρ2 H2) (vg2 c),⟨n,ρ,st,R,ok,w⟩,?_⟩;rintro m σ2 H2 ⟨ρ2,st2,R2,ok2,w2⟩;cases m with
  | zero=>exact w2.elim
  | succ m=>
    refine⟨ρ2,st2,R2,ok2,za8 (za4.mp w2) (λb st3 q3 H3 x3 ok3=>?_) λx st3 q H3 x3 ok3=>q H3 (x3.f0 R2) ok3⟩;have R3:=R2.ext ok2 x3;cases b with
    | false=>exact q3 σ2 H3 x3.frm ok3 R3
    | true=>
      refine vn1 ?_;refine⟨λσ4 H4=>∃ρ4 st4,Rep c H4 σ4 ρ4/\W.ok st4 H4/\wpR (zj6 S t B m ρ4 st4) (wz0 c D σ4 ρ4 H4) (vg2 c),λσ4 H4 q=>⟨m,Nat.lt_succ_self m,q⟩,ρ2,st3,R3,ok3,za8 (za4.mp q3) (λfl st4 q4=>?_) λx st4 q=>q⟩;have nxt:∀ρ5,wpR (zj6 S t B m ρ5 st4) (wz0 c D σ2 ρ2 H2) (vg2 c)->Nx c (λσ4 H4=>∃ρ4 st4,Rep c H4 σ4 ρ4/\W.ok st4 H4/\wpR (zj6 S t B m ρ4 st4) (wz0 c D σ4 ρ4 H4) (vg2 c)) σ2 ρ2 H3 ρ5 st4:=
       λρ5 q5 σ5 H5 F5 ok5 R5=>⟨ρ5,st4,R5,ok5,za8 q5 (λfl st6 q=>q.from (x3.frm.trans F5)) λx st6 q=>q⟩
      cases fl with
      | nx ρ5=>exact nxt ρ5 q4
      | ct ρ5=>exact nxt ρ5 q4
      | bk ρ5=>exact λσ5 H5 F5 ok5 R5=>q4 σ5 H5 (x3.frm.trans F5) ok5 R5
      | rt d=>exact q4
end
def rho0(n:Nat)(l:List D):Rho:=l.map Sl.bor++List.replicate (n-l.length) .no
def rhoS(n:Nat)(l:List D):Rho:=Sl.hnd::(l.map Sl.bor++List.replicate (n-1-l.length) .no)
def ub5{S:Type}(r:Res S Fl):Res S D:=match r with
 | .ok (.rt d) st=>.ok d st
 | .ok (.nx _) st=>.ok .non st
 | .ok _ _=>.bad
 | .exc x st=>.exc x st
 | .bad=>.bad
def dfn(n p:Nat)(B:FnS Unit):List D->Res Unit D:=λl=>if l.length=p/\p<=n then ub5 (B (rho0 n l) ()) else .bad
def vh4{S:Type}(n p:Nat)(B:FnS S):List D->S->Res S D:=λl st=>if l.length+1=p/\p<=n then ub5 (B (rhoS n l) st) else .bad
abbrev cx0(K:PySem.W.Frag)(H:Hp):Dx W0:=⟨K,H,λ_ _ _=>False,λ_=>False⟩
abbrev cxS{S:Type}(W:Wd S)(K:PySem.W.Frag)(H:Hp):Dx W:=⟨K,H,λ_ _ _=>False,λ_=>False⟩
def zt8{n:Nat}{i:Nat}(h:(rho0 n l)[i]?=some s):(∃d,s=.bor d/\l[i]?=some d)\/s=.no:=by
 unfold rho0 at h;by_cases hi:i<l.length
 ·rw[Aq0 (by rw[Aa0];exact hi),Ag0] at h
  cases q:l[i]? with
  | none=>rw[q] at h;cases h
  | some d=>rw[q] at h;cases h;exact .inl ⟨d,rfl,rfl⟩
 ·rw[List.getElem?_append_right (by rw[Aa0];omega),List.getElem?_replicate] at h
  split at h
  ·cases h;exact .inr rfl
  ·cases h
def yh0{i:Nat}(h:vs[i]?=some v):(wx1 N vs)[i]?=some (some v):=by
 unfold wx1;have hi:i<vs.length:=(Ac0.mp h).1;rw[Aq0 (by rw[Aa0];exact hi),Ag0,h];rfl
open H in
def yu3{K:PySem.W.Frag}{H:Hp}{N:List Str}{l:List D}{vs:List V}(hl:l.length<=N.length)(h:IsL K (λ_=>True) H l vs):Rep (cx0 K H) H (wx1 N vs) (rho0 N.length l):=by
 have no:∀b,¬Ow (wx1 N vs) (rho0 N.length l) b:=λb hI27=>by
  obtain⟨i,d,h1,_⟩:=hI27;rcases zt8 h1 with⟨_,z,_⟩ | z<;>cases z
 refine⟨?_,λb o e _=>e,λi s hs=>?_,λb z=>z.elim,λi j a d e h1 _ _ _=>?_⟩
 ·unfold wx1 rho0
  rw[An0,An0,Aa0,Aa0,List.length_replicate,List.length_replicate,h.length]
 ·rcases zt8 hs with⟨d,rfl,hd⟩ | rfl
  ·obtain⟨v,hv,iv⟩:=h.get hd
   exact⟨v,by rw[yh0 hv];rfl,iv.mono ⟨λ_ _ z _=>z,λb o _ z=>⟨⟨λm=>m,no b,λm=>m⟩,z⟩⟩⟩
  ·trivial
 ·rcases zt8 h1 with⟨_,z,_⟩ | z<;>cases z
section
variable{P:Program}{w:World}{K:PySem.W.Frag}{mg:Str->Option Value}{base:Heap}
open H in
def Fun.d0{x qual:Str}{st:Stmt}{f:Addr}{fd:FuncData}{N ps:List Str}{k:Nat}{B:FnS Unit}(F:Fun K x qual st f fd)(S:zc0 N ps (za2 st))(hb:∀(cdv:Value) (A:Around) (outer:List Env) (s:Shared) (H:Hp) (E:XK),wv8 k (A.deeper (envOfC qual (za2 st) s.heap.objs.size f cdv))->
  DSs (wx0 CX0 P w K mg base N qual (za2 st) f cdv A outer s H E).nox (cx0 K H) (zb9 st) B):wy0 P w K mg base CX0 (k+1) f fd ps (sp0 K (dfn N.length ps.length B)):=by
 refine F.ok S (λvs H Q E h=>?_) λcdv A outer s H vs Q E hr h=>?_
 ·obtain⟨l,i,w⟩:=h
  unfold dfn at w;split at w
  ·rename_i hl
   rw[<-i.length];exact hl.1
  ·exact w.elim
 ·obtain⟨l,i,w⟩:=h
  unfold dfn at w;split at w
  ·rename_i hl
   refine⟨_,hb cdv A outer s H E hr,rho0 N.length l,(),yu3 (by omega) i,trivial,?_⟩;cases q:B (rho0 N.length l) () with
   | bad=>rw[q] at w;exact w.elim
   | exc x u=>rw[q] at w;exact w.elim
   | ok fl u=>
     rw[q] at w;have fin:∀d v H',F0 (cx0 K H) H'->Is K (λb=>¬W0.mv b/\H b=none) H' d v->(∀v H',wx4 H H'->Is K (λb=>H b=none) H' d v->Q v H')->Q v H':=λd v H' f0 z q=>
      q v H' (λb o e=>f0 b o e λm=>m) (z.mono ⟨λ_ _ z _=>z,λb o a z=>⟨a.2,z⟩⟩)
     cases fl with
     | rt d=>exact λv H' f0 _ z=>fin d v H' f0 z w
     | nx ρ=>exact λσ' H' fr _ R'=>fin .non .non H' (λb o e n=>R'.frame b o e n) (Is.non_iff.mpr rfl) w
     | bk ρ=>exact w.elim
     | ct ρ=>exact w.elim
  ·exact w.elim
open H in
def Fun.dS{Sx:Type}{W:Wd Sx}{x qual:Str}{st:Stmt}{f:Addr}{fd:FuncData}{N ps:List Str}{k:Nat}{B:FnS Sx}(F:Fun K x qual st f fd)(S:zc0 N ps (za2 st))(hb:∀(cdv:Value) (A:Around) (outer:List Env) (s:Shared) (H:Hp) (E:XK),wv8 k (A.deeper (envOfC qual (za2 st) s.heap.objs.size f cdv))->
  DSs (wx0 CX0 P w K mg base N qual (za2 st) f cdv A outer s H E).nox (cxS W K H) (zb9 st) B):wy0 P w K mg base CX0 (k+1) f fd ps (spS W K (vh4 N.length ps.length B)):=by
 refine F.ok S (λvs H Q E h=>?_) λcdv A outer s H vs Q E hr h=>?_
 ·obtain⟨l,us,st0,rfl,i,ok,w⟩:=h
  unfold vh4 at w;split at w
  ·rename_i hl
   rw[Au0,<-i.length];exact hl.1
  ·exact w.elim
 ·obtain⟨l,us,st0,rfl,i,ok,w⟩:=h
  unfold vh4 at w;split at w
  ·rename_i hl
   have no:∀b,¬Ow (wx1 N (W.h::us)) (rhoS N.length l) b:=λb hI28=>by
    obtain⟨j,d,h1,_⟩:=hI28;unfold rhoS at h1;cases j with
    | zero=>cases h1
    | succ j=>
      have h1:(l.map Sl.bor++List.replicate (N.length-1-l.length) .no)[j]?=some (.own d):=by simpa using h1
      rcases zt8 (n:=N.length-1) h1 with⟨_,z,_⟩ | z<;>cases z
   have R:Rep (cxS W K H) H (wx1 N (W.h::us)) (rhoS N.length l):=by
    refine⟨?_,λb o e _=>e,λj s hs=>?_,λb z=>z.elim,λj j' a d e h1 _ h3 _=>(no a ⟨j,d,h1,h3⟩).elim⟩
    ·unfold wx1 rhoS
     simp only[An0,Au0,Aa0,List.length_replicate];have:=i.length;omega
    ·unfold rhoS at hs
     cases j with
     | zero=>cases hs;exact by rw[yh0 (v:=W.h) rfl];rfl
     | succ j=>
       have hs:(l.map Sl.bor++List.replicate (N.length-1-l.length) .no)[j]?=some s:=by simpa using hs
       rcases zt8 (n:=N.length-1) hs with⟨d,rfl,hd⟩ | rfl
       ·obtain⟨v,hv,iv⟩:=i.get hd
        exact⟨v,by rw[yh0 (v:=v) (by simpa using hv)];rfl,iv.mono ⟨λ_ _ z _=>z,λb o a z=>⟨⟨a,no b,λm=>m⟩,z⟩⟩⟩
       ·trivial
   refine⟨_,hb cdv A outer s H E hr,rhoS N.length l,st0,R,ok,?_⟩;cases q:B (rhoS N.length l) st0 with
   | bad=>rw[q] at w;exact w.elim
   | exc x u=>rw[q] at w;exact w.elim
   | ok fl u=>
     rw[q] at w;cases fl with
     | rt d=>exact λv H' f0 ok' z=>w v H' f0 ok' z
     | nx ρ=>exact λσ' H' fr ok' R'=>w .non H' (λb o e n=>R'.frame b o e n) ok' (Is.non_iff.mpr rfl)
     | bk ρ=>exact w.elim
     | ct ρ=>exact w.elim
  ·exact w.elim
end
structure zc1(P:Program)(w:World)(K:PySem.W.Frag)(mg:Str->Option Value)(base:Heap)(k:Nat)(x:Str)(ps:List Str)(sp:Sp):Prop where
 ex:∃f fd,mg x=some (.ref f)/\keepIn K (.ref f)=true/\wz7 K fd ps []/\wy0 P w K mg base CX0 k f fd ps sp
section
variable{X:Cx}{S:Type}{W:Wd S}{c:Dx W}{g:Gr}{k:Nat}{x:Str}{ps:List Str}{p pos:Pos}{e:Expr}{es:List Expr}
def zd0{G:List D->Res Unit D}{f:FnA S}(C:zc1 X.prog X.w X.K X.mg X.base k x ps (sp0 c.K G))(hr:wv8 k X.A)(hg:Gl X x)(ha:DA X c (e::es) f)(hdb:(x == ("__debug__" : Str))=false:=by decide)(he:starEach (e::es) X.env=(false,eval e X.env)::starEach es X.env:=by rfl)(hpl:(backTo pos (starEach es X.env)).any (·.1)=false:=by rfl):DE X c g (.Call (.Name x p) (e::es) [] pos) (vh3 S G f):=by
 obtain⟨fa,fd,hm,hk,hb,F⟩:=C.ex;exact(yb8 (E:=E0) F hr hg hm hk hb .nil vg6 ha hdb he hpl).imp λσ H Q q=>xy6 q
def zb7{G:List D->S->Res S D}{f:FnA S}{i:Nat}{y:Str}{py:Pos}(C:zc1 X.prog X.w X.K X.mg X.base k x ps (spS W c.K G))(hr:wv8 k X.A)(hg:Gl X x)(hy:PE X (.Name y py) (vb2 i))(ha:DA X c es f)(hdb:(x == ("__debug__" : Str))=false:=by decide)(he:starEach (.Name y py::es) X.env=(false,eval (.Name y py) X.env)::starEach es X.env:=by rfl)(hpl:(backTo pos (starEach es X.env)).any (·.1)=false:=by rfl):DE X c g (.Call (.Name x p) (.Name y py::es) [] pos) (yx2 S G i f):=by
 obtain⟨fa,fd,hm,hk,hb,F⟩:=C.ex;exact(yb8 (E:=E0) F hr hg hm hk hb .nil vg6 (zb8 hy ha he) hdb he hpl).imp λσ H Q q=>xy5 q
def zu6{i:Int}:New c H H' (.int i) (.int i):=Is.int_iff.mpr rfl
def zq7{i:Bool}:New c H H' (.bl i) (.bl i):=Is.bl_iff.mpr rfl
def iOp(C:Int->Int->Prop)[∀i j,Decidable (C i j)](g:Int->Int->D):D->D->Option D
 | .int i,.int j=>if C i j then some (g i j) else none
 | _,_=>none
def wx7(g:Int->Int->D):D->D->Option D
 | .int i,.int j=>some (g i j)
 | _,_=>none
open H in
def vk8{C:Int->Int->Prop}[∀i j,Decidable (C i j)]{g:Int->Int->Int}:OpD c (rI C λi j=>.int (g i j)) (iOp C λi j=>.int (g i j)):=by
 intro d1 d2 v1 v2 H st d Q ok z1 z2 e q;unfold iOp at e;split at e
 ·rename_i i j
  split at e
  ·rename_i h
   cases e;exact⟨i,j,Is.int_iff.mp z1,Is.int_iff.mp z2,h,q _ H Ext.refl ok zu6⟩
  ·cases e
 ·cases e
open H in
def vb3{g:Int->Int->Int}:OpD c (rI0 λi j=>.int (g i j)) (wx7 λi j=>.int (g i j)):=by
 intro d1 d2 v1 v2 H st d Q ok z1 z2 e q;unfold wx7 at e;split at e
 ·rename_i i j
  cases e;exact⟨i,j,Is.int_iff.mp z1,Is.int_iff.mp z2,q _ H Ext.refl ok zu6⟩
 ·cases e
open H in
def wy7{g:Int->Int->Bool}:OpD c (rI0 λi j=>.bl (g i j)) (wx7 λi j=>.bl (g i j)):=by
 intro d1 d2 v1 v2 H st d Q ok z1 z2 e q;unfold wx7 at e;split at e
 ·rename_i i j
  cases e;exact⟨i,j,Is.int_iff.mp z1,Is.int_iff.mp z2,q _ H Ext.refl ok zq7⟩
 ·cases e
theorem OpD.or(h:OpD c r o)(h':OpD c r' o'):OpD c (λx y H Q=>r x y H Q\/r' x y H Q) (λa b=>(o a b).or (o' a b)):=by
 intro d1 d2 v1 v2 H st d Q ok z1 z2 e q;cases e1:o d1 d2 with
 | some d'=>
   have e:some d'=some d:=by simpa [e1] using e
   cases e;exact .inl (h d1 d2 v1 v2 H st d Q ok z1 z2 e1 q)
 | none=>
   have e:o' d1 d2=some d:=by simpa [e1] using e
   exact .inr (h' d1 d2 v1 v2 H st d Q ok z1 z2 e q)
instance (i j:Int):Decidable (vs1 i j):=by unfold vs1;infer_instance
instance (i j:Int):Decidable (vd7 i j):=by unfold vd7;infer_instance
instance (i j:Int):Decidable (vr9 i j):=by unfold vr9;infer_instance
instance (i j:Int):Decidable (vq3 i j):=by unfold vq3;infer_instance
def oIx:D->D->Option D
 | .tup l,.int i=>im (atI l i)
 | .lst l,.int i=>im (atI l i)
 | _,_=>none
theorem wg0{K:PySem.W.Frag}{A:Addr->Prop}{H:Hp}{l:List D}{vs:List V}{i:Int}{d:D}(z:IsL K A H l vs)(h:atI l i=some d):∃v,atI vs i=some v/\Is K A H d v:=by
 unfold atI at h ⊢;rw[<-z.length];cases q:ixN l.length i with
 | none=>rw[q] at h;cases h
 | some j=>
   rw[q] at h;exact z.get (i:=j) h
theorem xb8(h:im o=some d):o=some d/\d.imm=true:=by
 cases o with
 | none=>cases h
 | some x=>
   have h:(if x.imm=true then some x else none)=some d:=h;split at h
   ·cases h;exact⟨rfl,by assumption⟩
   ·cases h
open H in
def vo4{K:PySem.W.Frag}(hK:c.K=K):OpD c (rIx K) oIx:=by
 intro d1 d2 v1 v2 H st d Q ok z1 z2 e q;unfold oIx at e;split at e
 ·rename_i l i
  obtain⟨a,vs,ea,s,z⟩:=Is.tup_sq z1;obtain⟨e,m⟩:=xb8 e;obtain⟨v,hv,iv⟩:=wg0 z e;exact .inr (.inl ⟨a,vs,i,v,ea,Is.int_iff.mp z2,hK▸s,hv,q v H Ext.refl ok (New.imm m iv)⟩)
 ·rename_i l i
  obtain⟨a,vs,ea,n,s,z⟩:=Is.lst_iff.mp z1;obtain⟨e,m⟩:=xb8 e;obtain⟨v,hv,iv⟩:=wg0 z e;exact .inl ⟨a,vs,i,v,ea,Is.int_iff.mp z2,.of s,hv,q v H Ext.refl ok (New.imm m iv)⟩
 ·cases e
end
section
variable{X:Cx}{S:Type}{W:Wd S}{c:Dx W}{H H':Hp}{σ:St}{ρ:Rho}{st:S}{i:Nat}{d d':D}{a:Addr}{o:HO}
open H in
def xr7(hi:ρ[i]?=some (.own d))(b:Addr):Ow σ (ρ.set i (.own d')) b↔Ow σ ρ b:=by
 have hlt:i<ρ.length:=(Ac0.mp hi).1;constructor
 ·rintro ⟨j,e,h1,h2⟩
  rcases zb6 h1 with⟨m,_⟩ | ⟨_,z⟩
  ·subst m;exact⟨j,d,hi,h2⟩
  ·exact⟨j,e,z,h2⟩
 ·rintro ⟨j,e,h1,h2⟩
  by_cases m:j=i
  ·subst m;exact⟨j,d',Bk0 hlt,h2⟩
  ·exact⟨j,e,by rw[At0 (Ne.symm m)];exact h1,h2⟩
open H in
def Rep.wr(R:Rep c H σ ρ)(hi:ρ[i]?=some (.own d))(ha:σ[i]?=some (some (.ref a)))(ht:(∀u,o≠.tup u)/\∀ob u,o≠.frz ob u)(h:ww5 (Av c σ ρ) (Av c σ ρ) H (upd H a o)->Top c.K (Av c σ ρ) (upd H a o) d' a):Rep c (upd H a o) σ (ρ.set i (.own d'))/\Frm c H σ ρ (upd H a o) σ (ρ.set i (.own d')):=by
 have hlt:i<ρ.length:=(Ac0.mp hi).1;have wa:Ow σ ρ a:=⟨i,d,hi,ha⟩;obtain⟨nm,h0,o1,ho,n1,n2⟩:=R.owOk wa;have k:ww5 (Av c σ ρ) (Av c σ ρ) H (upd H a o):=zj3 (λb u e t=>by
  have hb:b≠a:=λz=>by
   subst z;rw[ho] at e;cases e;rcases t with⟨w,z⟩ | ⟨ob,w,z⟩
   ·exact n1 w z
   ·exact n2 ob w z
  rw[za9 hb];exact e) λb u av e=>⟨av,by rw[za9 (λ(z:b=a)=>av.2.1 (z▸wa))];exact e⟩
 have avEq:Av c σ (ρ.set i (.own d'))=Av c σ ρ:=by
  funext b;unfold Av;rw[xr7 (σ:=σ) (d':=d') hi b]
 have T:=h k;refine⟨⟨by rw[Bu0];exact R.len,λb u e n=>?_,λj s hs=>?_,λb hb=>?_,λj j' b e e' h1 h2 h3 h4=>?_⟩,⟨λb u e n w=>?_,λb u e n w=>(xr7 hi b).mp w⟩⟩
 ·have hb:b≠a:=λz=>by subst z;rw[show c.H0 b=none from h0] at e;cases e
  rw[za9 hb];exact R.frame b u e n
 ·rw[avEq]
  rcases zb6 hs with⟨m,z⟩ | ⟨nj,z⟩
  ·subst z m
   obtain⟨b,e1,n,f,t⟩:=R.slot j _ hi;rw[ha] at e1;have e1:some (V.ref a)=some (V.ref b):=e1;cases e1;exact⟨a,by rw[ha];rfl,n,f,T⟩
  ·have q:=R.slot j s z
   cases s with
   | no=>trivial
   | bor e=>obtain⟨v',e1,i1⟩:=q;exact⟨v',e1,i1.mono k⟩
   | own e=>
     obtain⟨b,e1,n,f,t⟩:=q;have hb:b≠a:=λz'=>by
      subst z';exact nj (R.uniq j i b e d z hi (zl2 e1) ha)
     exact⟨b,e1,n,f,t.mono k λu z=>by rw[za9 hb];exact z⟩
   | hnd=>exact q
 ·obtain⟨n,z,u,h',q⟩:=R.avl b hb
  have hba:b≠a:=λz'=>by
   subst z';obtain⟨b',e1,n',_⟩:=R.slot i _ hi;rw[ha] at e1;have e1:some (V.ref b)=some (V.ref b'):=e1;cases e1;exact n'.2 hb
  exact⟨n,z,u,by rw[za9 hba];exact h',q⟩
 ·have fix:∀(j:Nat) (e:D),(ρ.set i (.own d'))[j]?=some (.own e)->∃e',ρ[j]?=some (.own e'):=λj e h1=>by
   rcases zb6 h1 with⟨m,_⟩ | ⟨_,z⟩
   ·subst m;exact⟨d,hi⟩
   ·exact⟨e,z⟩
  obtain⟨x1,y1⟩:=fix j e h1;obtain⟨x2,y2⟩:=fix j' e' h2;exact R.uniq j j' b x1 x2 y1 y2 h3 h4
 ·have hb:b≠a:=λz=>w (z▸wa)
  rw[za9 hb];exact e
def ww2(ρ:Rho)(i:Nat):Option (List D):=match ρ[i]? with
 | some (.own (.lst l))=>if D.immL l=true then some l else none
 | _=>none
def yj0(h:ww2 ρ i=some l):ρ[i]?=some (.own (.lst l))/\D.immL l=true:=by
 unfold ww2 at h;split at h
 ·split at h
  ·cases h;exact⟨by assumption,by assumption⟩
  ·cases h
 ·cases h
def zw9(h:ww2 ρ i=some l):ρ[i]?=some (.own (.lst l)):=(yj0 h).1
def Rep.lstAt(R:Rep c H σ ρ)(h:ww2 ρ i=some l):∃a vs,σ[i]?=some (some (.ref a))/\H a=some (.lst vs)/\IsL c.K (Av c σ ρ) H l vs/\¬W.mv a:=by
 obtain⟨a,e1,n,f,vs,e2,z⟩:=R.slot i _ (zw9 h);exact⟨a,vs,zl2 e1,e2,z,n.1⟩
def yv2(ok:W.ok st H)(n:¬W.mv a):W.ok st (upd H a o):=W.stay st H _ ok λb u m e=>by rw[za9 (λ(z:b=a)=>n (z▸m))];exact e
def sMt(S:Type)(i:Nat)(o:List D->D->Option (List D))(f:Fn S):FnS S:=λρ st=>match ww2 ρ i with
 | some l=>(f ρ st).bind λd st1=>(ww7 (o l d) st1).bind λl' st2=>.ok (.nx (ρ.set i (.own (.lst l')))) st2
 | none=>.bad
def MtD{S:Type}{W:Wd S}(c:Dx W)(r:V->List V->Hp->VK->Prop)(o:List D->D->Option (List D)):Prop:=∀l d l' a vs v H (Q:VK),o l d=some l'->H a=some (.lst vs)->IsL c.K (λb=>¬W.mv b) H l vs->Is c.K (λb=>¬W.mv b) H d v->
 (∀us,(D.immL l=true->D.immL l'=true/\IsL c.K (λb=>¬W.mv b) H l' us)->Q .non (upd H a (.lst us)))->r (.ref a) [v] H Q
def va6{x m:Str}{id:String}{e:Expr}{f:Fn S}{p1 p2 p3 p4:Pos}{r:V->List V->Hp->VK->Prop}{o:List D->D->Option (List D)}(hm:MtR X id r)(ho:MtD c r o)(slot:Slot "list" m id)(hty:typeOf (.builtin id)=pure (.type "method_descriptor"))(hx:PE X (.Name x p1) (vb2 i))(he:DE X c .R e f)(hK:c.K=X.K)(hbase:attributeBase (.Name x p1) m X.env (eval (.Name x p1) X.env)=eval (.Name x p1) X.env:=by rfl)(hfew:((backTo p3 (starEach [e] X.env)).all (λx=>!x.1)&&(backToKw p3 (keywordEach [] X.env)).all (λx=>x.1.isSome)
  && decide (([e]:List Expr).length+([]:List Keyword).length+(if ([]:List Keyword).isEmpty then 0 else 1)<30))=true:=by rfl)(hline:(p2.endLine == p3.line)=true:=by rfl)(hs:starEach [e] X.env=(false,eval e X.env)::starEach [] X.env:=by rfl)(hplain:(backTo p3 (starEach [] X.env)).any (·.1)=false:=by rfl)(hsw:swapsWith (.Call (.Attribute (.Name x p1) m p2) [e] [] p3) none p4.line X.env=pure false:=by rfl) :
 DS X c (.Expr (.Call (.Attribute (.Name x p1) m p2) [e] [] p3) p4) (sMt S i o f):=
 (yp9 (vk7 PySem.F.plainAttrs_list slot hty hm hx (zb8 he zf4 hs) hbase hfew hline hs hplain) hsw).imp λD σ H hI29=>by
  obtain⟨ρ,st,R,ok,w⟩:=hI29;unfold sMt at w;cases q:ww2 ρ i with
  | none=>rw[q] at w;exact w.elim
  | some l=>
    rw[q] at w;obtain⟨a,vs,ea,eH,z,nm⟩:=R.lstAt q;refine⟨.ref a,ea,.inl ⟨rfl,vs,.of eH⟩,ρ,st,R,ok,za8 (za4.mp w) (λd st1 q v H1 e ok1 zv=>?_) λx st1 q H1 e ok1=>q H1 (e.f0 R) ok1⟩;obtain⟨l',e',q'⟩:=zb4.mp (za4.mp q);have R1:=R.ext ok e;have eH1:=e a _ eH nm;have kA:ww5 (Av c σ ρ) (λb=>¬W.mv b) H1 H1:=⟨λ_ _ z _=>z,λb o a z=>⟨a.1,z⟩⟩;refine ho l d l' a vs v H1 _ e' eH1 (IsL.mono kA (z.mono (e.keepT ok λb a=>⟨a.1,a⟩))) zv λus hus=>?_
    obtain⟨m',z'⟩:=hus (yj0 (by assumption)).2;obtain⟨R2,F2⟩:=R1.wr (d':=.lst l') (o:=.lst us) (zw9 (by assumption)) ea ⟨(λu z=>by cases z),(λob u z=>by cases z)⟩ λk=>⟨us,zb3,IsL.mono k (IsL.ofImm m' z')⟩
    exact q' σ _ (e.frm.trans F2) (yv2 ok1 nm) R2
def vr5(l:List D)(d:D):Option (List D):=if d.imm=true/\l.length<sizeLine then some (l++[d]) else none
def vr3(l:List D)(d:D):Option (List D):=match d with
 | .lst m=>if D.immL m=true/\l.length+m.length<=sizeLine then some (l++m) else none
 | _=>none
open H in
def zn8:MtD c xp8 vr5:=by
 intro l d l' a vs v H Q e eH z zv q;unfold vr5 at e;split at e
 ·rename_i h
  cases e;refine⟨a,vs,v,rfl,rfl,eH,by rw[<-z.length];exact h.2,q _ λm=>⟨zg9 m (by simp[D.immL,h.1]),z.append (IsL.one zv)⟩⟩
 ·cases e
open H in
def yi9:MtD c xp7 vr3:=by
 intro l d l' a vs v H Q e eH z zv q;unfold vr3 at e;split at e
 ·rename_i n
  split at e
  ·rename_i h
   cases e;obtain⟨b,us,eb,nb,hb,zb⟩:=Is.lst_iff.mp zv;subst eb;refine⟨a,b,vs,us,rfl,rfl,eH,hb,by rw[<-z.length,<-zb.length];exact h.2,q _ λm=>⟨zg9 m h.1,z.append zb⟩⟩
  ·cases e
 ·cases e
end
def zj9(N:List Str)(osc:Scope)(N':List Str)(ixs:List (Option Nat))(scope:Scope):Bool:=
 decide (scope.kind=.function)&&scope.names.all (λy=>decide (y.2≠.cell))&&scope.names.all (λy=>decide (y.2=.local->scope.names.lookup y.1=some .local))&&decide (ixs.length=N'.length) &&
 scope.names.all (λy=>decide (y.2=.free->osc.names.lookup y.1=some .cell\/osc.names.lookup y.1=some .free)) &&
 (List.range N'.length).all (λj=>match N'[j]?,ixs[j]? with
  | some y,some (some i)=>decide (N[i]?=some y)&&decide (scope.names.lookup y=some .free)
  | _,_=>true)
def zj9.scope{X:Cx}{N:List Str}{osc:Scope}{N':List Str}{ixs:List (Option Nat)}{scope:Scope}(h:zj9 N osc N' ixs scope=true)(hN:X.N=N:=by rfl)(hS:X.env.scope=osc:=by rfl):zj5 X N' ixs scope:=by
 unfold zj9 at h;simp only[Bool.and_eq_true,decide_eq_true_eq,List.all_eq_true] at h;obtain⟨⟨⟨⟨⟨h1,h2⟩,h3⟩,h4⟩,h5⟩,h6⟩:=h;refine⟨h1,h2,h3,h4,λy hy hf=>by rw[hS];exact h5 y hy hf,λj i y e1 e2=>?_⟩;have hj:j<N'.length:=(Ac0.mp e1).1;have q:=h6 j (List.mem_range.mpr hj);rw[e1,e2] at q;simp only[Bool.and_eq_true,decide_eq_true_eq] at q;exact⟨by rw[hN];exact q.1,q.2⟩
end L2
namespace PySem
open H in
def yl5(l:Addr)(items:Array Value)(n:Nat)(dct:Option Addr)(sl:Array (Option Value)) :
 Meets (Builtin.«enumerate.__new__» ⟨[.type "enumerate",.ref l],[]⟩) (λ_ R s=>s.heap.get? l=some { cls:=.type "tuple",dict:=dct,data:=.seq items n,slots:=sl }/\
  R (.ok (.ret (.ref (s.heap.push { cls:=.type "tuple_iterator",data:=.fields #[.ref l,.int 0 0] }).objs.size)))
    { s with heap:=(s.heap.push { cls:=.type "tuple_iterator",data:=.fields #[.ref l,.int 0 0] }).push { cls:=.type "enumerate",data:=.fields #[.none,.bool false,.ref s.heap.objs.size,rawInt 0,.none,.none] } }):=
 .of_wp λprog w A R s h=>by
  obtain⟨hp,g,d,tk,os⟩:=s;obtain⟨hl,h⟩:=h;have hsub:=sub_enumerate;have hT:Heap.IsTuple (Shared.heap ⟨hp,g,d,tk,os⟩) l items:=⟨_,hl,rfl,n,rfl⟩
  wp_walk using wpAny_loadPart' hl
  refine wpAny_stack_any λst=>Ab1 ?_
  split
  ·rename_i c _ _ _ _ _
   cases (c == Value.type "enumerate")<;>(wp_walk using wpAny_loadPart' hl,wpAny_pyIter_tuple hT;exact⟨_,rfl,h⟩)
  ·(wp_walk using wpAny_loadPart' hl,wpAny_pyIter_tuple hT;exact⟨_,rfl,h⟩)
section
variable{prog:Program}{w:World}{A:Around}{E:Value->Shared->Prop}{s:Shared}
def ys1(hL:s.heap.IsTuple l items)(h:∀h',IsEnum h' (s.heap.objs.size+1) s.heap.objs.size 0 .none->h'.IsTupleIter s.heap.objs.size l 0->(∀b o,s.heap.get? b=some o->h'.get? b=some o)->Q (.ref (s.heap.objs.size+1)) { s with heap:=h' }) :
 wpAny (model prog w) A (call (.type "enumerate") [.ref l]) Q E s:=by
 obtain⟨⟨c,dct,dt,sl⟩,hl,hc,n,hd⟩:=hL;have hc:c=.type "tuple":=hc;have hd:dt=.seq items n:=hd;subst hc hd;refine callType_new F.called_enumerate (by decide) (F.typeCall_enumerate_1 _) (F.newCall_enumerate_1 _) (λobj=>F.args_object_init_2 obj _) F.entry_enumerate_new (yl5 l items n dct sl) ⟨hl,?_⟩;generalize hg:s.heap.push { cls:=.type "tuple_iterator",data:=.fields #[.ref l,.int 0 0] }=g;have hz:g.objs.size=s.heap.objs.size+1:=by rw[<-hg];exact Bq0 ..
 have he:IsEnum (g.push { cls:=.type "enumerate",data:=.fields #[.none,.bool false,.ref s.heap.objs.size,rawInt 0,.none,.none] }) (s.heap.objs.size+1) s.heap.objs.size 0 .none:=by
  have:=Ak0 g (o:={ cls:=.type "enumerate",data:=.fields #[.none,.bool false,.ref s.heap.objs.size,rawInt 0,.none,.none] }) rfl;rw[hz] at this;exact this
 have hi:g.get? s.heap.objs.size=some { cls:=.type "tuple_iterator",data:=.fields #[.ref l,.int 0 0] }:=by rw[<-hg];exact Ak0 _ rfl
 show _/\_;rw[hz];exact⟨⟨_,he,rfl⟩,h _ he ⟨_,Ab0 _ hi,rfl,rfl⟩ λb o x=>Ab0 _ (by rw[<-hg];exact Ab0 _ x)⟩
open H in
def zq6{i:Nat}(hit:s.heap.IsTupleIter it l i)(hl:s.heap.IsTuple l items)(hx:items[i]?=some x)(hQ:∀h',h'.IsTupleIter it l (i+1)->Heap.SameBut it s.heap h'->Q x { s with heap:=h' }):wpAny (model prog w) A (Builtin.SmallTypes.nextOf (.ref it)) Q E s:=by
 obtain⟨o,ho,hc,hd⟩:=id hit;obtain⟨ol,hol,_,nl,hdl⟩:=hl;unfold Builtin.SmallTypes.nextOf;refine Aa1 (wpAny_callSpecial?_slot (name:=Str.ofString "__next__") hit.typeIs F.slot_tuple_iterator_next (Ag1 F.slot_tuple_iterator_next hit.typeIs F.entry_tuple_iterator_next ?_ (F.args_tuple_iterator_next_1 _)));show wpAny _ _ (field (.ref it) 0 >>= λ_=>_) _ _ s;refine Aa1 (Ac1 ho hd (x:=.ref l) rfl ?_);show wpAny _ _ (if (Value.ref l == Value.none)=true then _ else _) _ _ s;have nn:¬(Value.ref l == Value.none)=true:=Bh0;rw[if_neg nn];refine Aa1 (m:=field (.ref it) 1) (Ac1 ho hd (x:=.int i 0) rfl ?_);refine Aa1 (m:=seqItems? (.ref l)) (Ah1 hol hdl ?_);simp only[As0,hx];refine Aa1 (wpAny_setField ho hd (by simp) (Ab1 ⟨x,rfl,Ab1 (hQ _ ?_ (Heap.SameBut.update ..))⟩));refine⟨_,Ce0 _ ho (Obj.isFreed_of_fields (Obj.data_mapFields hd _)),(Obj.cls_mapFields ..).trans hc,?_⟩;rw[Obj.data_mapFields hd];simp[rawInt]
open H in
def zt3{i:Nat}(hh:A.handled=none)(hit:s.heap.IsTupleIter it l i)(hl:s.heap.IsTuple l items)(hx:items[i]?=none)(hE:∀h' e,Heap.ExtBut it s.heap h'->(∃o,h'.get? e=some o/\o.cls=.type "StopIteration")->E (.ref e) { s with heap:=h' }):wpAny (model prog w) A (Builtin.SmallTypes.nextOf (.ref it)) Q E s:=by
 obtain⟨o,ho,hc,hd⟩:=id hit;obtain⟨ol,hol,_,nl,hdl⟩:=hl;unfold Builtin.SmallTypes.nextOf;refine Aa1 (wpAny_callSpecial?_slot (name:=Str.ofString "__next__") hit.typeIs F.slot_tuple_iterator_next (Ag1 F.slot_tuple_iterator_next hit.typeIs F.entry_tuple_iterator_next ?_ (F.args_tuple_iterator_next_1 _)));show wpAny _ _ (field (.ref it) 0 >>= λ_=>_) _ _ s;refine Aa1 (Ac1 ho hd (x:=.ref l) rfl ?_);show wpAny _ _ (if (Value.ref l == Value.none)=true then _ else _) _ _ s;have nn:¬(Value.ref l == Value.none)=true:=Bh0;rw[if_neg nn];refine Aa1 (m:=field (.ref it) 1) (Ac1 ho hd (x:=.int i 0) rfl ?_);refine Aa1 (m:=seqItems? (.ref l)) (Ah1 hol hdl ?_);simp only[As0,hx];refine Aa1 (wpAny_rule (Aa1 (wpAny_setField ho hd (by simp) ?_)));refine Aa1 (m:=newExc (.type "StopIteration") []) ?_;simp only[newExc,newTuple];refine Aa1 (wpAny_newObj_type ?_ (by size_fits));refine Aa1 (m:=firstArgMember _ _) (wpAny_of_eq (a:=Value.none) (by first | rfl | (simp only[firstArgMember];rfl)) ?_);refine wpAny_newObj_type ?_ (by size_fits);simp only[raiseNew];refine Aa1 (wpAny_handled ?_);first | rw[show A.in1.handled=none from hh] | rw[hh]
 exact Aa1 (Ab1 (wpAny_throw (hE _ _ (((Heap.SameBut.update ..).extBut.push _).push _) ⟨_,Ak0 _ rfl,rfl⟩)))
def yx3{e it:Addr}{i:Nat}{x old:Value}{T:Heap->Prop}{Q:Value->Shared->Prop}(he:IsEnum s.heap e it i old)(hne:e≠it)(hT:∀h h',T h->(∀o,h.get? it=some o->h'.get? it=some o)->T h')(hnx:∀Q':Value->Shared->Prop,(∀h',T h'->Heap.SameBut it s.heap h'->Q' x { s with heap:=h' })->wpAny (model prog w) A (Builtin.SmallTypes.nextOf (.ref it)) Q' E s)(hQ:∀h',IsEnumOut h' e it ((i:Int)+1) x s.heap.objs.size->T h'->h'.get? s.heap.objs.size=some { cls:=.type "tuple",data:=.seq #[.int i s.toks,x] }->h'.objs.size=s.heap.objs.size+1->
  (∀b o,b≠e->b≠it->s.heap.get? b=some o->h'.get? b=some o)->Q (.ref s.heap.objs.size) { s with heap:=h',toks:=s.toks+1 }) :
 wpAny (model prog w) A (Builtin.«enumerate.__next__» ⟨[.ref e],[]⟩) (λfin s'=>∃v,fin=.done (.ret v)/\Q v s') E s:=by
 obtain⟨hp,g,d,tk,os⟩:=s;refine Aa1 (m:=field (.ref e) 2) (Ac1 he rfl (x:=.ref it) rfl ?_);refine Aa1 (hnx _ λh₁ t₁ hs₁=>?_);have hs₁:Heap.SameBut it hp h₁:=hs₁;have he₁:IsEnum h₁ e it i old:=(hs₁.2 e hne).trans he;show wpAny _ _ (field (.ref e) 3 >>= λ_=>_) _ _ ⟨h₁,g,d,tk,os⟩;refine Aa1 (Ac1 he₁ rfl (x:=rawInt i) rfl ?_);refine Aa1 (m:=field (.ref e) 4) (Ac1 he₁ rfl (x:=.none) rfl ?_);refine Aa1 (m:=mkInt i) (wpAny_mkInt ?_);refine Aa1 (m:=setField (.ref e) 3 (rawInt ((i:Int)+1))) (Ad1 he₁ (by simp) λh₂ he₂ hs₂=>?_);have hs₂:Heap.SameBut e h₁ h₂:=hs₂;have he₂:IsEnum h₂ e it ((i:Int)+1) old:=he₂;refine Aa1 (m:=setField (.ref e) 4 .none) (Ad1 he₂ (by simp) λh₃ he₃ hs₃=>?_);have hs₃:Heap.SameBut e h₂ h₃:=hs₃;have he₃:IsEnum h₃ e it ((i:Int)+1) old:=he₃;refine Aa1 (m:=newTuple [.int i tk,x]) (wpAny_newTuple ?_);have he₄:IsEnum (h₃.push { cls:=.type "tuple",data:=.seq #[.int i tk,x] }) e it ((i:Int)+1) old:=Ab0 _ he₃;generalize hh₄:h₃.push { cls:=.type "tuple",data:=.seq #[.int i tk,x] }=h₄ at he₄;have hsz:h₃.objs.size=hp.objs.size:=by rw[hs₃.1,hs₂.1,hs₁.1]
 have hel:hp.objs.size≠e:=By0 (Heap.lt_size he);have ht₄:h₄.get? hp.objs.size=some { cls:=.type "tuple",data:=.seq #[.int i tk,x] }:=by rw[<-hh₄,<-hsz];exact Ak0 _ rfl
 have hz₄:h₄.objs.size=hp.objs.size+1:=by rw[<-hh₄,Bq0,hsz]
 have up₄:∀b o,b≠e->h₁.get? b=some o->h₄.get? b=some o:=λb o hb q=>by
  rw[<-hh₄];exact Ab0 _ (hs₃.extBut b o hb (hs₂.extBut b o hb q))
 show wpAny _ _ (Builtin.SmallTypes.ownedTupleIsFree (.ref e) >>= λ_=>_) _ _ ⟨h₄,g,d,tk+1,os⟩;rw[hsz];refine Aa1 ?_;unfold Builtin.SmallTypes.ownedTupleIsFree;refine Aa1 (Ac1 he₄ rfl (x:=.none) rfl (Ab1 ?_));simp only[if_true];refine Aa1 (wpAny_rule (Aa1 (Ac1 he₄ rfl (x:=old) rfl ?_)));refine Aa1 (Ad1 he₄ (by simp) λh₅ he₅ hs₅=>?_);have hs₅:Heap.SameBut e h₄ h₅:=hs₅;have he₅:IsEnum h₅ e it ((i:Int)+1) x:=he₅;show wpAny _ _ (Builtin.SmallTypes.ownedTupleHandOut (.ref e) (.ref hp.objs.size) >>= λ_=>_) _ _ ⟨h₅,g,d,tk+1,os⟩;refine Aa1 ?_;unfold Builtin.SmallTypes.ownedTupleHandOut;refine Aa1 (Ad1 he₅ (by simp) λh₆ he₆ hs₆=>?_);have hs₆:Heap.SameBut e h₅ h₆:=hs₆;have he₆:IsEnumOut h₆ e it ((i:Int)+1) x hp.objs.size:=he₆;refine Ad1 he₆ (by simp) λh₇ he₇ hs₇=>?_
 have hs₇:Heap.SameBut e h₆ h₇:=hs₇;have he₇:IsEnumOut h₇ e it ((i:Int)+1) x hp.objs.size:=he₇;have up₇:∀b o,b≠e->h₄.get? b=some o->h₇.get? b=some o:=λb o hb q=>hs₇.extBut b o hb (hs₆.extBut b o hb (hs₅.extBut b o hb q))
 refine Aa1 (wpAny_letGo (Ab1 ⟨_,rfl,hQ h₇ he₇ (hT h₁ h₇ t₁ λo q=>up₇ _ o (Ne.symm hne) (up₄ _ o (Ne.symm hne) q)) (up₇ _ _ hel ht₄) (by rw[hs₇.1,hs₆.1,hs₅.1,hz₄]) λb o hb hi q=>up₇ b o hb (up₄ b o hb (hs₁.extBut b o hi q))⟩))
end
end PySem
namespace L2
section
variable{X:Cx}{A3:List (Addr×Obj)}{σ:St}{H:Hp}{s:Shared}{h':Heap}
def Inv.turnedT{fp:List Addr}{p:Addr}{vs:List V}{its:List Value}{t':Nat}(I:Inv X A3 σ H s)(hf:∀b∈fp,vd4 X A3 H b)(k:∀b o,b∉fp->s.heap.get? b=some o->h'.get? b=some o)(hp:s.heap.objs.size<=p)(hv:wv6 vs its)(hz:vs.length<=sizeLine)(ht:IsTup h' p its.toArray)(hd:NoD h' p):Inv X A3 σ (upd H p (.tup vs)) { s with heap:=h',toks:=t' }:=by
 have hn:H p=none:=I.hok.fresh hp;have nfp:∀b u,H b=some u->b∉fp:=λb u e z=>by rw[(hf b z).1] at e;cases e
 have old:∀b u,H b=some u->upd H p (.tup vs) b=some u:=λb u e=>by rw[za9 (zb1 e hn)];exact e
 refine I.step (g':=s.gens) (d':=s.drawn) (t':=t') (ch:=fp) (λb hb=>⟨(hf b hb).2.2.2.1,(hf b hb).2.1,(hf b hb).2.2.2.2.1,(hf b hb).2.2.2.2.2⟩) (λb o _ _ hc e _=>k b o hc e) (λb o _ _ hc e _=>⟨o.slots,k b o hc e⟩)
  (λb o _ e n=>by rw[za9 (Ar0 (Ap0 (Heap.lt_size e) hp))];exact n) (λb o hc e=>⟨o,k b o hc e⟩) (λb xs e=>old b _ e) (λb o u e=>old b _ e) (λb ps e=>⟨#[],by rw[old b _ e];simp⟩) (λm hm=>?_) (λb u e=>?_) I.bare
 ·obtain⟨o,es,ep,ho,r⟩:=hm
  exact⟨o,es,ep,k _ o (λz=>(hf _ z).2.1 rfl) ho,r⟩
 ·by_cases hb:b=p
  ·subst hb
   rw[zb3] at e;cases e;exact⟨hz,its,hv,ht,hd⟩
  ·rw[za9 hb] at e
   refine(I.hok b u e).stay (λd v hd q=>k d v ?_ q) (λd q=>old d _ q) λd xs q=>old d _ q
   rcases hd with z | z
   ·rw[z];exact nfp b u e
   ·exact nfp d _ z
def Inv.turnedF{fp:List Addr}{t':Nat}(I:Inv X A3 σ H s)(hf:∀b∈fp,vd4 X A3 H b)(k:∀b o,b∉fp->s.heap.get? b=some o->h'.get? b=some o):Inv X A3 σ H { s with heap:=h',toks:=t' }:=by
 have nfp:∀b u,H b=some u->b∉fp:=λb u e z=>by rw[(hf b z).1] at e;cases e
 refine I.step (g':=s.gens) (d':=s.drawn) (t':=t') (ch:=fp) (λb hb=>⟨(hf b hb).2.2.2.1,(hf b hb).2.1,(hf b hb).2.2.2.2.1,(hf b hb).2.2.2.2.2⟩) (λb o _ _ hc e _=>k b o hc e) (λb o _ _ hc e _=>⟨o.slots,k b o hc e⟩)
  (λb o _ e n=>n) (λb o hc e=>⟨o,k b o hc e⟩) (λb xs e=>e) (λb o u e=>e) (λb ps e=>⟨#[],by rw[e];simp⟩) (λm hm=>?_) (λb u e=>?_) I.bare
 ·obtain⟨o,es,ep,ho,r⟩:=hm
  exact⟨o,es,ep,k _ o (λz=>(hf _ z).2.1 rfl) ho,r⟩
 ·refine(I.hok b u e).stay (λd v hd q=>k d v ?_ q) (λd q=>q) λd xs q=>q
  rcases hd with z | z
  ·rw[z];exact nfp b u e
  ·exact nfp d _ z
end
def Ien(Sq:Hp->List V->Prop):It:=
 ⟨λi H=>∃xs x,Sq H xs/\xs[i]?=some x,λi H v H'=>∃p x,H p=none/\v=.ref p/\H'=upd H p (.tup [.int i,x])/\∀xs,Sq H xs->xs[i]?=some x,λi H=>∃xs,Sq H xs/\xs.length<=i⟩
open H in
def xk6{P:Program}{w:World}{K:PySem.W.Frag}{elts:List Expr}{x1}{pos:Pos}(a e it:Addr):vj7 P w K (.Tuple elts x1 pos) (Ien λH xs=>SqT K H a xs) [e,it] e (λi h=>e≠it/\(∃old,IsEnum h e it i old)/\h.IsTupleIter it a i) where
 mem:=by simp
 obj:=λi h st b hb=>by
  obtain⟨hne,⟨old,he⟩,o,ho,c,d⟩:=st;rcases Aj0.mp hb with z | hb
  ·subst z
   exact⟨_,he,λv z=>by
    have z':Data.fields _=Data.cell v:=z;cases z'⟩
  ·have z:b=it:=by simpa using hb
   subst z;exact⟨o,ho,λv z=>by rw[d] at z;cases z⟩
 keep:=λi h h' st k=>by
  obtain⟨hne,⟨old,he⟩,hi⟩:=st;exact⟨hne,⟨old,k e (by simp) _ he⟩,hi.at λo q=>k it (by simp) o q⟩
 item:=by
  intro X hP hw hK hc i A3 s σ H E I hf st hg;subst hP hw hK;obtain⟨xs,x,hq,hx⟩:=hg;obtain⟨hne,⟨old,he⟩,hi⟩:=st;obtain⟨its,rv,p,hz⟩:=I.tuple hq;obtain⟨u,hu,ru⟩:=rv.get hx;have pT:s.heap.IsTuple a its.toArray:=p;have hT:s.TypeIs (.ref e) "enumerate":=⟨_,he,rfl⟩;unfold pyNext;refine Aa1 (wpAny_attempt (wpAny_callSpecial?_slot (name:=Str.ofString "__next__") hT F.slot_enumerate_next (Ag1 F.slot_enumerate_next hT F.entry_enumerate_next (yx3 (T:=λh=>h.IsTupleIter it a (i+1)) he hne (λh h' t q=>t.at q) (λQ' hQ'=>zq6 hi pT (x:=u) (by simpa using hu) hQ') λh' ho hi' ht hs kk=>Ab1 ?_) (F.args_enumerate_next_1 _))));refine⟨_,rfl,wpAny_letOwnedTupleGo_enum (s:={ s with heap:=h',toks:=s.toks+1 }) ho λh2 he2 sb2=>?_⟩;have sb2:Heap.SameBut e h' h2:=sb2;have pe:s.heap.objs.size≠e:=By0 (Heap.lt_size he);have k2:∀b o,b∉[e,it]->s.heap.get? b=some o->h2.get? b=some o:=λb o hb q=>by
   have h1:b≠e:=λz=>hb (by simp[z])
   have h3:b≠it:=λz=>hb (by simp[z])
   exact sb2.extBut b o h1 (kk b o h1 h3 q)
  have tt:IsTup h2 s.heap.objs.size [Value.int i s.toks,u].toArray/\NoD h2 s.heap.objs.size:=⟨⟨_,sb2.extBut _ _ pe ht,rfl,_,rfl⟩,⟨_,sb2.extBut _ _ pe ht,rfl⟩⟩;have nn:∀b∈[e,it],b≠s.heap.objs.size:=λb hb z=>by
   obtain⟨o1,ho1,_⟩:=id hi;rcases Aj0.mp hb with y | y
   ·exact pe (by rw[<-z,y])
   ·have y:b=it:=by simpa using y
    rw[z] at y;rw[<-y] at ho1;exact absurd (Heap.lt_size ho1) (Bc0 _)
  refine⟨.ref s.heap.objs.size,_,I.turnedT (p:=s.heap.objs.size) (vs:=[.int i,x]) hf k2 (Al0 _) (.cons ⟨_,rfl⟩ (.cons ru .nil)) (by show 2<=sizeLine;decide) tt.1 tt.2,rfl,⟨_,x,I.hok.fresh (Al0 _),rfl,rfl,λys hy=>by rw[I.tuple_inj hy hq];exact hx⟩,⟨hne,⟨u,?_⟩,?_⟩,λb hb=>?_⟩
  ·have:((i+1:Nat):Int)=(i:Int)+1:=by omega
   rw[this];exact he2
  ·exact hi'.extBut sb2.extBut (Ne.symm hne)
  ·rw[za9 (nn b hb)];exact(hf b hb).1
 done:=by
  intro X hP hw hK hc i A3 s σ H E I hf st hg;subst hP hw hK;obtain⟨xs,hq,hx⟩:=hg;obtain⟨hne,⟨old,he⟩,hi⟩:=st;obtain⟨its,rv,p,hz⟩:=I.tuple hq;have pT:s.heap.IsTuple a its.toArray:=p;have hl:=rv.length;have hT:s.TypeIs (.ref e) "enumerate":=⟨_,he,rfl⟩;unfold pyNext;refine Aa1 (wpAny_attempt (wpAny_callSpecial?_slot (name:=Str.ofString "__next__") hT F.slot_enumerate_next (Ag1 F.slot_enumerate_next hT F.entry_enumerate_next ?_ (F.args_enumerate_next_1 _))));refine Aa1 (m:=field (.ref e) 2) (Ac1 he rfl (x:=.ref it) rfl ?_);refine Aa1 (zt3 (I.ok.hd hc) hi pT (by simp;omega) λh' x he' hx'=>?_);obtain⟨o,ho,hcls⟩:=hx';refine Aa1 (wpAny_isInstance (T:="StopIteration") (b:=true) ⟨o,ho,hcls⟩ isSubtype_stop (Ab1 ⟨rfl,I.turnedF hf λb o hb q=>he' b o (λz=>hb (by simp[z])) q⟩))
 self:=λ_ _ _ _ _ st h=>let ⟨_,⟨_,he⟩,_⟩:=st;wpAny_pyIter_enum he h
section
variable{X:Cx}{elts:List Expr}{x1:Nat}{tpos:Pos}
def ue6(K:PySem.W.Frag)(ta:TA):TI:=λσ H R=>ta σ H λvs H1=>∃a xs,vs=[.ref a]/\SqT K H1 a xs/\R (Ien λH xs=>SqT K H a xs) H1
theorem xz4(hg:Gl X "enumerate")(hm:X.mg "enumerate" = none)(ha:PA X [a] ta)(hs:starEach [a] X.env=[(false,eval a X.env)]:=by rfl):PI X (.Tuple elts x1 tpos) (.Call (.Name "enumerate" p) [a] [] pos) (ue6 X.K ta):=by
 intro A3 s σ H R I h;refine Call_ (ya7 I hg hm boot_enumerate (PyProof.Rows.callWith_type1 (thn (ha pos A3 s σ H _ I h) λus s1 hI106=>?_) hs rfl));obtain⟨vs,H1,I1,r1,q1⟩:=hI106;obtain⟨l,xs,rfl,hq,q⟩:=q1;cases r1 with
 | cons r rr=>
   cases rr;cases r;obtain⟨its,rv,pt,hz⟩:=I1.tuple hq;refine ys1 (show s1.heap.IsTuple l its.toArray from pt) λh' he hi kk=>?_
   refine wpAny_pyIter_enum (s:={ s1 with heap:=h' }) he ?_;refine⟨s1.heap.objs.size+1,[s1.heap.objs.size+1,s1.heap.objs.size],_,_,H1,rfl,I1.kept (t':=s1.toks) kk,xk6 l _ _,⟨Nat.succ_ne_self _,⟨_,he⟩,hi⟩,λb hb=>?_,q⟩;have hb:s1.heap.objs.size<=b:=by
    rcases Aj0.mp hb with z | z
    ·rw[z];exact Nat.le_succ _
    ·have z:b=s1.heap.objs.size:=by simpa using z
     exact Nat.le_of_eq z.symm
   exact I1.fpOk hb (I1.hok.fresh hb)
variable{S:Type}{W:Wd S}{c:Dx W}
def zw7(l:List D):List D:=(l.zipIdx).map λp=>.tup [.int p.2,p.1]
def vl5:List D->Option (List D)
 | [.tup l]=>if D.immL l=true then some (zw7 l) else none
 | _=>none
theorem yd9{i:Nat}(h:(zw7 l)[i]?=some d):∃x,l[i]?=some x/\d=.tup [.int i,x]:=by
 unfold zw7 at h;rw[Ag0,List.getElem?_zipIdx] at h;cases q:l[i]? with
 | none=>rw[q] at h;cases h
 | some x=>rw[q] at h;cases h;exact⟨x,rfl,by simp⟩
def zu5(l:List D):(zw7 l).length=l.length:=by unfold zw7;rw[Aa0,List.length_zipIdx]
theorem xh5:∀{l:List D} {i:Nat} {d:D},D.immL l=true->l[i]?=some d->d.imm=true
 | [],_,_,_,h=>by simp at h
 | x::l,0,d,m,h=>by
   have m':x.imm=true/\D.immL l=true:=by simpa [D.immL] using m
   simp at h;subst h;exact m'.1
 | x::l,i+1,d,m,h=>by
   have m':x.imm=true/\D.immL l=true:=by simpa [D.immL] using m
   exact xh5 (i:=i) m'.2 (by simpa using h)
open H in
def wl5(hK:c.K=X.K)(hg:Gl X "enumerate")(hm:X.mg "enumerate" = none)(ha:DA X c [a] f)(hs:starEach [a] X.env=[(false,eval a X.env)]:=by rfl):DI X c (.Tuple elts x1 tpos) (.Call (.Name "enumerate" p) [a] [] pos) (vc7 S vl5 f):=
 (xz4 hg hm ha hs).imp λσ H R hI30=>by
  obtain⟨ρ,st,R0,ok,w⟩:=hI30;refine⟨ρ,st,R0,ok,za8 (za4.mp w) (λl st1 q vs H1 e ok1 z=>?_) λx st1 q=>q⟩;obtain⟨m,e1,q⟩:=zb4.mp q;unfold vl5 at e1;split at e1
  ·rename_i l
   split at e1
   ·rename_i im
    cases e1;obtain⟨v,r,e2,i2,i3⟩:=IsL.cons.mp z;obtain⟨a,xs,ea,s0,i⟩:=Is.tup_iff.mp i2;have s:SqT c.K H1 a xs:=.of s0;rw[IsL.nil.mp i3,ea] at e2;refine⟨a,xs,e2,hK▸s,q _ H1 e ok1 ?_⟩;intro c' hK' σ2 ρ2 H2 st2 k R2 ok2 j;have s2:SqT X.K H2 a xs:=by rw[<-hK];exact .of (k.tup a xs s0)
    have i1:IsL c.K (Av c σ ρ) H1 l xs:=IsL.ofImm im i;have i2:IsL c.K (Av c' σ2 ρ2) H2 l xs:=i1.mono k;refine⟨λd hd=>?_,λhl=>⟨xs,s2,by rw[zu5] at hl;rw[<-i2.length];exact hl⟩⟩;obtain⟨y,hy,rfl⟩:=yd9 hd;obtain⟨v1,hv,iv⟩:=i2.get hy;refine⟨⟨xs,v1,s2,hv⟩,?_⟩;rintro x H3 ⟨pp,x',hpn,rfl,rfl,hx⟩;have:=hx xs s2;rw[hv] at this;cases this;have sm:wx4 H2 (upd H2 pp (.tup [.int j,v1])):=λb o hb=>by rw[za9 (zb1 hb hpn)];exact hb
    refine⟨sm,Is.tup zb3 (IsL.cons.mpr ⟨_,_,rfl,Is.int_iff.mpr rfl,IsL.one ?_⟩)⟩;exact Is.ofImm (xh5 im hy) (iv.mono (A':=Av c' σ2 ρ2) (zj3 (λb o hb _=>sm b o hb) λb o a hb=>⟨a,sm b o hb⟩))
   ·cases e1
  ·cases e1
end
section
variable{X:Cx}
def zt9{bs:List Bool}:(List.range bs.length).all (λi=>bs.getD i false)=bs.all id:=by
 apply Cd0.mpr;simp only[List.all_eq_true,List.mem_range,id];constructor
 ·intro h b hb
  obtain⟨i,hi,e⟩:=List.mem_iff_getElem.mp hb;have:=h i hi;rw[Bl0,Ad0 hi] at this;rw[<-e];exact this
 ·intro h i hi
  rw[Bl0,Ad0 hi];exact h _ (List.getElem_mem hi)
def xp6{bs:List Bool}:(List.range bs.length).any (λi=>bs.getD i false)=bs.any id:=by
 apply Cd0.mpr;simp only[Cj0,List.mem_range,id];constructor
 ·rintro ⟨i,hi,h⟩
  rw[Bl0,Ad0 hi] at h;exact⟨_,List.getElem_mem hi,h⟩
 ·rintro ⟨b,hb,h⟩
  obtain⟨i,hi,e⟩:=List.mem_iff_getElem.mp hb;refine⟨i,hi,?_⟩;rw[Bl0,Ad0 hi,e];exact h
def xj2{bs:List Bool}{its:List Value}(r:wv6 (bs.map V.bl) its){i:Nat}{v:Value}(h:its.toArray[i]?=some v):v=.bool (bs.getD i false):=by
 have hi:i<its.length:=by
  have:=(Bw0.mp h).1;simpa using this
 have hl:=r.length;rw[Aa0] at hl;have hb:i<bs.length:=by omega
 obtain⟨u,hu,ru⟩:=r.get (i:=i) (x:=.bl bs[i]) (by rw[Ag0,Ad0 hb];rfl);have:its[i]?=some v:=by simpa using h
 rw[hu] at this;cases this;rw[Bl0,Ad0 hb];exact ru
def ys3(hc:X.calm=true):wy3 X (.builtin "all") (λxs H Q=>∃(a:Addr) (bs:List Bool),xs=[.ref a]/\SqL X.K H a (bs.map V.bl)/\Q (.bl (bs.all id)) H):=by
 intro A3 s σ H xs us Q I r h;obtain⟨a,bs,rfl,hq,q⟩:=h;obtain⟨u,rfl,r1⟩:=va4 r;cases r1;obtain⟨its,rv,p,hz⟩:=I.list hq;have hh:X.A.in1.handled=none:=I.ok.hd hc;have lt:a<s.heap.objs.size:=by obtain⟨o,e,_⟩:=p.isList;exact Heap.lt_size e
 refine call_all_walk (wpAny_pyIter_list p.isList ⟨_,_,_,_,_,_,λi=>bs.getD i false,rfl,Walks.list hh s.heap.objs.size a (Ar0 lt) its.toArray,⟨⟨_,Ak0 _ rfl,rfl,rfl⟩,p.isList.push _⟩,?_,?_⟩)
 ·intro i v Q' E' s' hP hQ
  rw[xj2 rv hP];exact Af1 hQ
 ·intro h' tk hk
  have e:(List.range its.toArray.size).all (λi=>bs.getD i false)=bs.all id:=by
   have hl:=rv.length;rw[Aa0] at hl;rw[Af0,<-hl,zt9]
  rw[e];refine⟨.bl _,H,?_,rfl,q⟩;refine I.kept (t':=tk) λb o e=>hk b o (λz=>?_) (Ab0 _ e)
  have z:b=s.heap.objs.size:=by simpa using z
  have lt:=Heap.lt_size e;rw[z] at lt;exact Bc0 _ lt
def ys2(hc:X.calm=true):wy3 X (.builtin "any") (λxs H Q=>∃(a:Addr) (bs:List Bool),xs=[.ref a]/\SqL X.K H a (bs.map V.bl)/\Q (.bl (bs.any id)) H):=by
 intro A3 s σ H xs us Q I r h;obtain⟨a,bs,rfl,hq,q⟩:=h;obtain⟨u,rfl,r1⟩:=va4 r;cases r1;obtain⟨its,rv,p,hz⟩:=I.list hq;have hh:X.A.in1.handled=none:=I.ok.hd hc;have lt:a<s.heap.objs.size:=by obtain⟨o,e,_⟩:=p.isList;exact Heap.lt_size e
 refine call_any_walk (wpAny_pyIter_list p.isList ⟨_,_,_,_,_,_,λi=>bs.getD i false,rfl,Walks.list hh s.heap.objs.size a (Ar0 lt) its.toArray,⟨⟨_,Ak0 _ rfl,rfl,rfl⟩,p.isList.push _⟩,?_,?_⟩)
 ·intro i v Q' E' s' hP hQ
  rw[xj2 rv hP];exact Af1 hQ
 ·intro h' tk hk
  have e:(List.range its.toArray.size).any (λi=>bs.getD i false)=bs.any id:=by
   have hl:=rv.length;rw[Aa0] at hl;rw[Af0,<-hl,xp6]
  rw[e];refine⟨.bl _,H,?_,rfl,q⟩;refine I.kept (t':=tk) λb o e=>hk b o (λz=>?_) (Ab0 _ e)
  have z:b=s.heap.objs.size:=by simpa using z
  have lt:=Heap.lt_size e;rw[z] at lt;exact Bc0 _ lt
end
open PySem.SeqAt
mutual
def D.eqq:D->D->Option Bool
 | .int i,.int j=>some (i == j)
 | .str i,.str j=>some (i == j)
 | .bl i,.bl j=>some (i == j)
 | .non,.non=>some true
 | .tup l,.tup m=>D.eqL l m
 | .lst l,.lst m=>if l.length=m.length then D.eqL l m else some false
 | _,_=>none
def D.eqL:List D->List D->Option Bool
 | [],[]=>some true
 | [],_::_=>some false
 | _::_,[]=>some false
 | a::l,b::m=>(D.eqq a b).bind λx=>(D.eqL l m).map λy=>x&&y
end
mutual
def D.dep:D->Nat
 | .tup l=>D.depL l+1
 | .lst l=>D.depL l+1
 | _=>0
def D.depL:List D->Nat
 | []=>0
 | d::l=>max (D.dep d) (D.depL l)
end
section
variable{X:Cx}{A3:List (Addr×Obj)}{σ:St}{H:Hp}{s:Shared}{A1 A2:Addr->Prop}
mutual
theorem yr0(I:Inv X A3 σ H s):∀{d1 d2:D} {v:V} {b:Bool},Is X.K A1 H d1 v->Is X.K A2 H d2 v->D.eqq d1 d2=some b->b=true
 | .int i,d2,v,b,h1,h2,e=>by
   rw[Is.int_iff.mp h1] at h2;cases d2 with
   | int j=>have:=Is.int_iff.mp h2;cases this;unfold D.eqq at e;simpa using e.symm
   | _=>unfold D.eqq at e;cases e
 | .str i,d2,v,b,h1,h2,e=>by
   rw[Is.str_iff.mp h1] at h2;cases d2 with
   | str j=>have:=Is.str_iff.mp h2;cases this;unfold D.eqq at e;simpa using e.symm
   | _=>unfold D.eqq at e;cases e
 | .bl i,d2,v,b,h1,h2,e=>by
   rw[Is.bl_iff.mp h1] at h2;cases d2 with
   | bl j=>have:=Is.bl_iff.mp h2;cases this;unfold D.eqq at e;simpa using e.symm
   | _=>unfold D.eqq at e;cases e
 | .non,d2,v,b,h1,h2,e=>by
   cases d2 with
   | non=>unfold D.eqq at e;simpa using e.symm
   | _=>unfold D.eqq at e;cases e
 | .tup l,d2,v,b,h1,h2,e=>by
   cases d2 with
   | tup m=>
     obtain⟨a,vs,ea,s1,i1⟩:=Is.tup_sq h1;obtain⟨a',us,ea',s2,i2⟩:=Is.tup_sq h2;rw[ea] at ea';cases ea';have:=I.tuple_inj s1 s2;subst this;unfold D.eqq at e;exact yr1 I i1 i2 e
   | _=>unfold D.eqq at e;cases e
 | .lst l,d2,v,b,h1,h2,e=>by
   cases d2 with
   | lst m=>
     obtain⟨a,vs,ea,_,s1,i1⟩:=Is.lst_iff.mp h1;obtain⟨a',us,ea',_,s2,i2⟩:=Is.lst_iff.mp h2;rw[ea] at ea';cases ea';have:vs=us:=by rw[s1] at s2;cases s2;rfl
     subst this;unfold D.eqq at e;have hl:l.length=m.length:=by rw[i1.length,i2.length]
     rw[if_pos hl] at e;exact yr1 I i1 i2 e
   | _=>unfold D.eqq at e;cases e
 | .dct _ _,d2,v,b,h1,h2,e=>by cases d2<;>(unfold D.eqq at e;cases e)
 | .fl _,d2,v,b,h1,h2,e=>by cases d2<;>(unfold D.eqq at e;cases e)
theorem yr1(I:Inv X A3 σ H s):∀{l m:List D} {vs:List V} {b:Bool},IsL X.K A1 H l vs->IsL X.K A2 H m vs->D.eqL l m=some b->b=true
 | [],m,vs,b,h1,h2,e=>by
   rw[IsL.nil.mp h1] at h2;cases m with
   | nil=>unfold D.eqL at e;simpa using e.symm
   | cons x r=>obtain⟨_,_,z,_⟩:=IsL.cons.mp h2;cases z
 | d::l,m,vs,b,h1,h2,e=>by
   obtain⟨v,r,ev,i1,j1⟩:=IsL.cons.mp h1;subst ev;cases m with
   | nil=>have:=IsL.nil.mp h2;cases this
   | cons x m=>
     obtain⟨v',r',ev',i2,j2⟩:=IsL.cons.mp h2;cases ev';unfold D.eqL at e;cases q1:D.eqq d x with
     | none=>rw[q1] at e;cases e
     | some b1=>
       cases q2:D.eqL l m with
       | none=>rw[q1,q2] at e;cases e
       | some b2=>
         rw[q1,q2] at e;have e:some (b1&&b2)=some b:=e;cases e;rw[yr0 I i1 i2 q1,yr1 I j1 j2 q2];rfl
end
def va1:List D->List D->List Bool
 | a::l,b::m=>((D.eqq a b).getD false)::va1 l m
 | _,_=>[]
theorem zo4:∀(l m:List D),(va1 l m).length=min l.length m.length
 | [],m=>by cases m<;>simp[va1]
 | a::l,[]=>by simp[va1]
 | a::l,b::m=>by simp[va1,zo4 l m]
theorem yj9:∀{l m:List D} {b:Bool},D.eqL l m=some b->b=((va1 l m).all id&&l.length == m.length)
 | [],[],b,e=>by unfold D.eqL at e;simpa [va1] using e.symm
 | [],_::_,b,e=>by unfold D.eqL at e;simpa [va1] using e.symm
 | _::_,[],b,e=>by unfold D.eqL at e;simpa [va1] using e.symm
 | a::l,x::m,b,e=>by
   unfold D.eqL at e;cases q1:D.eqq a x with
   | none=>rw[q1] at e;cases e
   | some b1=>
     cases q2:D.eqL l m with
     | none=>rw[q1,q2] at e;cases e
     | some b2=>
       rw[q1,q2] at e;have e:some (b1&&b2)=some b:=e;cases e;rw[yj9 q2];simp[va1,q1,Bool.and_assoc]
theorem xi3:∀{l m:List D} {b:Bool} {j:Nat} {x y:D},D.eqL l m=some b->l[j]?=some x->m[j]?=some y->D.eqq x y=some ((va1 l m).getD j false)
 | [],_,_,_,_,_,_,h,_=>by simp at h
 | _::_,[],_,_,_,_,_,_,h=>by simp at h
 | a::l,c::m,b,j,x,y,e,h1,h2=>by
   unfold D.eqL at e;cases q1:D.eqq a c with
   | none=>rw[q1] at e;cases e
   | some b1=>
     cases q2:D.eqL l m with
     | none=>rw[q1,q2] at e;cases e
     | some b2=>
       cases j with
       | zero=>simp at h1 h2;subst h1 h2;simp[va1,q1]
       | succ j=>
         have:=xi3 (j:=j) q2 (by simpa using h1) (by simpa using h2);simpa [va1] using this
theorem yr6:∀{l:List D} {j:Nat} {x:D},l[j]?=some x->x.dep<=D.depL l
 | [],_,_,h=>by simp at h
 | a::l,0,x,h=>by simp at h;subst h;unfold D.depL;omega
 | a::l,j+1,x,h=>by
   have:=yr6 (j:=j) (l:=l) (x:=x) (by simpa using h);unfold D.depL;omega
def D.plain:D->Bool
 | .tup _=>false
 | .lst _=>false
 | .dct _ _=>false
 | .fl _=>false
 | _=>true
theorem yo2{b:Bool}(hp:d1.plain=true)(e:D.eqq d1 d2=some b)(h1:Is X.K A1 H d1 v1)(h2:Is X.K A2 H d2 v2)(r1:wv5 v1 u1)(r2:wv5 v2 u2):EqAt A s u1 u2 b:=by
 cases d1 with
 | int i=>
   cases d2 with
   | int j=>
     have z1:=Is.int_iff.mp h1;have z2:=Is.int_iff.mp h2;subst z1 z2;obtain⟨t,rfl⟩:=r1;obtain⟨t',rfl⟩:=r2;unfold D.eqq at e;cases e;exact EqAt.int_int i t j t'
   | _=>unfold D.eqq at e;cases e
 | str i=>
   cases d2 with
   | str j=>
     have z1:=Is.str_iff.mp h1;have z2:=Is.str_iff.mp h2;subst z1 z2;obtain⟨t,rfl⟩:=r1;obtain⟨t',rfl⟩:=r2;unfold D.eqq at e;cases e;exact EqAt.str_str i t j t'
   | _=>unfold D.eqq at e;cases e
 | bl i=>
   cases d2 with
   | bl j=>
     have z1:=Is.bl_iff.mp h1;have z2:=Is.bl_iff.mp h2;subst z1 z2;cases r1;cases r2;unfold D.eqq at e;cases e;exact EqAt.bool_bool i j
   | _=>unfold D.eqq at e;cases e
 | non=>
   cases d2 with
   | non=>
     have z1:=Is.non_iff.mp h1;have z2:=Is.non_iff.mp h2;subst z1 z2;cases r1;cases r2;unfold D.eqq at e;cases e;exact EqAt.same _
   | _=>unfold D.eqq at e;cases e
 | tup l=>simp[D.plain] at hp
 | lst l=>simp[D.plain] at hp
 | dct _ _=>simp[D.plain] at hp
 | fl _=>simp[D.plain] at hp
def zn0{n:Nat}{b:Bool}(e:D.eqL l m=some b)(i1:IsL X.K A1 H l vs)(i2:IsL X.K A2 H m us)(rv:wv6 vs its)(rv2:wv6 us its2)(ih:∀{d1 d2:D} {b:Bool} {v1 v2:V} {u1 u2:Value},d1.dep<=n->D.eqq d1 d2=some b->Is X.K A1 H d1 v1->Is X.K A2 H d2 v2->wv5 v1 u1->wv5 v2 u2->EqAt A s u1 u2 b)(hd:D.depL l<=n)(j:Nat)(h1:j<its.toArray.size)(h2:j<its2.toArray.size):EqAt A s its.toArray[j] its2.toArray[j] ((va1 l m).getD j false):=by
 have h1':j<its.length:=by simpa using h1
 have h2':j<its2.length:=by simpa using h2
 have g1:j<l.length:=by rw[i1.length,rv.length];exact h1'
 have g2:j<m.length:=by rw[i2.length,rv2.length];exact h2'
 have x1:l[j]?=some l[j]:=Ad0 g1;have x2:m[j]?=some m[j]:=Ad0 g2;obtain⟨v1,hv1,z1⟩:=i1.get x1;obtain⟨v2,hv2,z2⟩:=i2.get x2;obtain⟨w1,hw1,r1⟩:=rv.get hv1;obtain⟨w2,hw2,r2⟩:=rv2.get hv2;have e1:its.toArray[j]=w1:=by
  rw[Ad0 h1'] at hw1;have:=Option.some.inj hw1;simpa using this
 have e2:its2.toArray[j]=w2:=by
  rw[Ad0 h2'] at hw2;have:=Option.some.inj hw2;simpa using this
 rw[e1,e2];exact ih (Av0 (yr6 x1) hd) (xi3 e x1 x2) z1 z2 r1 r2
theorem xu5(I:Inv X A3 σ H s):∀(n:Nat) {A:Around} {d1 d2:D} {b:Bool} {v1 v2:V} {u1 u2:Value},d1.dep<=n->A.units+n<cLine->D.eqq d1 d2=some b->Is X.K A1 H d1 v1->Is X.K A2 H d2 v2->wv5 v1 u1->wv5 v2 u2->EqAt A s u1 u2 b:=by
 intro n;induction n with
 | zero=>
   intro A d1 d2 b v1 v2 u1 u2 hd hu e h1 h2 r1 r2;refine yo2 ?_ e h1 h2 r1 r2;cases d1 with
   | tup l=>unfold D.dep at hd;omega
   | lst l=>unfold D.dep at hd;omega
   | dct _ _=>cases d2<;>(unfold D.eqq at e;cases e)
   | fl _=>cases d2<;>(unfold D.eqq at e;cases e)
   | _=>rfl
 | succ n ih=>
   intro A d1 d2 b v1 v2 u1 u2 hd hu e h1 h2 r1 r2;by_cases hp:d1.plain=true
   ·exact yo2 hp e h1 h2 r1 r2
   have hu0:A.units<cLine:=by omega
   have ih':∀{d1 d2:D} {b:Bool} {v1 v2:V} {u1 u2:Value},d1.dep<=n->D.eqq d1 d2=some b->Is X.K A1 H d1 v1->Is X.K A2 H d2 v2->wv5 v1 u1->wv5 v2 u2->EqAt A.in1 s u1 u2 b:=
    λhd e h1 h2 r1 r2=>ih (A:=A.in1) hd (by rw[Around.in1_units];omega) e h1 h2 r1 r2
   cases d1 with
   | tup l=>
     cases d2 with
     | tup m=>
       obtain⟨a,vs,ea,s1,i1⟩:=Is.tup_sq h1;obtain⟨a',us,ea',s2,i2⟩:=Is.tup_sq h2;have hb:a=a'->b=true:=λz=>by
        subst z;rw[ea'] at h2;rw[ea] at h1;exact yr0 I h1 h2 e
       subst ea ea';cases r1;cases r2;by_cases z:a=a'
       ·rw[hb z,z];exact EqAt.same _
       ·obtain⟨its,rv,p1,_⟩:=I.tuple s1
        obtain⟨its2,rv2,p2,_⟩:=I.tuple s2;unfold D.eqq at e;have dl:D.depL l<=n:=by unfold D.dep at hd;omega
        have q:=RcAt.tuples (A:=A) (e:=λj=>(va1 l m).getD j false) (show s.heap.IsTuple a its.toArray from p1) (show s.heap.IsTuple a' its2.toArray from p2) hu0 (λj g1 g2=>zn0 e i1 i2 rv rv2 ih' dl j g1 g2);have eb:=yj9 e;have l1:its.toArray.size=l.length:=by rw[Af0,<-rv.length,<-i1.length]
        have l2:its2.toArray.size=m.length:=by rw[Af0,<-rv2.length,<-i2.length]
        rw[l1,l2,<-zo4,zt9,<-eb] at q;exact EqAt.of_refs z q
     | _=>unfold D.eqq at e;cases e
   | lst l=>
     cases d2 with
     | lst m=>
       obtain⟨a,vs,ea,_,s1,i1⟩:=Is.lst_iff.mp h1;obtain⟨a',us,ea',_,s2,i2⟩:=Is.lst_iff.mp h2;have hb:a=a'->b=true:=λz=>by
        subst z;rw[ea'] at h2;rw[ea] at h1;exact yr0 I h1 h2 e
       subst ea ea';cases r1;cases r2;by_cases z:a=a'
       ·rw[hb z,z];exact EqAt.same _
       ·obtain⟨its,rv,p1,_⟩:=I.list (.of s1)
        obtain⟨its2,rv2,p2,_⟩:=I.list (.of s2);have l1:its.toArray.size=l.length:=by rw[Af0,<-rv.length,<-i1.length]
        have l2:its2.toArray.size=m.length:=by rw[Af0,<-rv2.length,<-i2.length]
        unfold D.eqq at e;by_cases hl:l.length=m.length
        ·rw[if_pos hl] at e
         have dl:D.depL l<=n:=by unfold D.dep at hd;omega
         have q:=RcAt.lists (A:=A) (e:=λj=>(va1 l m).getD j false) p1.isList p2.isList (by rw[l1,l2,hl]) hu0 (λj g1 g2=>zn0 e i1 i2 rv rv2 ih' dl j g1 g2);have eb:=yj9 e;have el:l.length=(va1 l m).length:=by rw[zo4];omega
         rw[l1,el,zt9] at q;rw[hl] at eb;simp at eb;rw[eb];have:(va1 l m).all id=(va1 l m).all (λx=>x):=rfl;exact EqAt.of_refs z q
        ·rw[if_neg hl] at e
         cases e;exact EqAt.of_refs z (RcAt.lists_lengths p1.isList p2.isList (by rw[l1,l2];simpa using hl) hu0)
     | _=>unfold D.eqq at e;cases e
   | dct _ _=>cases d2<;>(unfold D.eqq at e;cases e)
   | fl _=>cases d2<;>(unfold D.eqq at e;cases e)
   | _=>simp[D.plain] at hp
end
section
variable{X:Cx}{A3:List (Addr×Obj)}{σ:St}{H:Hp}{s:Shared}{A1 A2:Addr->Prop}
theorem wd9(I:Inv X A3 σ H s){n:Nat}{b:Bool}(hd:d1.dep<=n)(hu:A.units+n<cLine)(e:D.eqq d1 d2=some b)(h1:Is X.K A1 H d1 v1)(h2:Is X.K A2 H d2 v2)(r1:wv5 v1 u1)(r2:wv5 v2 u2) :
 RcAt A s u1 u2 b/\RcNeAt A s u1 u2 (!b):=by
 have hu0:A.units<cLine:=by omega
 cases d1 with
 | int i=>
   cases d2 with
   | int j=>
     have z1:=Is.int_iff.mp h1;have z2:=Is.int_iff.mp h2;subst z1 z2;obtain⟨t,rfl⟩:=r1;obtain⟨t',rfl⟩:=r2;unfold D.eqq at e;cases e;exact⟨RcAt.int_int i t j t',RcNeAt.int_int i t j t'⟩
   | _=>unfold D.eqq at e;cases e
 | str i=>
   cases d2 with
   | str j=>
     have z1:=Is.str_iff.mp h1;have z2:=Is.str_iff.mp h2;subst z1 z2;obtain⟨t,rfl⟩:=r1;obtain⟨t',rfl⟩:=r2;unfold D.eqq at e;cases e;exact⟨RcAt.str_str i t j t',RcNeAt.str_str i t j t'⟩
   | _=>unfold D.eqq at e;cases e
 | bl i=>
   cases d2 with
   | bl j=>
     have z1:=Is.bl_iff.mp h1;have z2:=Is.bl_iff.mp h2;subst z1 z2;cases r1;cases r2;unfold D.eqq at e;cases e;exact⟨RcAt.bool_bool i j,RcNeAt.bool_bool i j⟩
   | _=>unfold D.eqq at e;cases e
 | non=>
   cases d2 with
   | non=>
     have z1:=Is.non_iff.mp h1;have z2:=Is.non_iff.mp h2;subst z1 z2;cases r1;cases r2;unfold D.eqq at e;cases e;exact⟨RcAt.none_none,RcNeAt.none_none⟩
   | _=>unfold D.eqq at e;cases e
 | tup l=>
   cases d2 with
   | tup m=>
     obtain⟨a,vs,ea,s1,i1⟩:=Is.tup_sq h1;obtain⟨a',us,ea',s2,i2⟩:=Is.tup_sq h2;subst ea ea';cases r1;cases r2;obtain⟨its,rv,p1,_⟩:=I.tuple s1;obtain⟨its2,rv2,p2,_⟩:=I.tuple s2;unfold D.eqq at e;have hd':D.depL l+1<=n:=by unfold D.dep at hd;exact hd
     have ih':∀{d1 d2:D} {b:Bool} {v1 v2:V} {u1 u2:Value},d1.dep<=n-1->D.eqq d1 d2=some b->Is X.K A1 H d1 v1->Is X.K A2 H d2 v2->wv5 v1 u1->wv5 v2 u2->EqAt A.in1 s u1 u2 b:=
      λhd e h1 h2 r1 r2=>xu5 I (n-1) (A:=A.in1) hd (by rw[Around.in1_units];omega) e h1 h2 r1 r2
     have q:=RcAt.tuples (A:=A) (e:=λj=>(va1 l m).getD j false) (show s.heap.IsTuple a its.toArray from p1) (show s.heap.IsTuple a' its2.toArray from p2) hu0 (λj g1 g2=>zn0 e i1 i2 rv rv2 ih' (by omega) j g1 g2);have q':=RcNeAt.tuples (A:=A) (e:=λj=>(va1 l m).getD j false) (show s.heap.IsTuple a its.toArray from p1) (show s.heap.IsTuple a' its2.toArray from p2) hu0 (λj g1 g2=>zn0 e i1 i2 rv rv2 ih' (by omega) j g1 g2);have eb:=yj9 e;have l1:its.toArray.size=l.length:=by rw[Af0,<-rv.length,<-i1.length]
     have l2:its2.toArray.size=m.length:=by rw[Af0,<-rv2.length,<-i2.length]
     rw[l1,l2,<-zo4,zt9,<-eb] at q q';exact⟨q,q'⟩
   | _=>unfold D.eqq at e;cases e
 | lst l=>
   cases d2 with
   | lst m=>
     obtain⟨a,vs,ea,_,s1,i1⟩:=Is.lst_iff.mp h1;obtain⟨a',us,ea',_,s2,i2⟩:=Is.lst_iff.mp h2;subst ea ea';cases r1;cases r2;obtain⟨its,rv,p1,_⟩:=I.list (.of s1);obtain⟨its2,rv2,p2,_⟩:=I.list (.of s2);have l1:its.toArray.size=l.length:=by rw[Af0,<-rv.length,<-i1.length]
     have l2:its2.toArray.size=m.length:=by rw[Af0,<-rv2.length,<-i2.length]
     unfold D.eqq at e;by_cases hl:l.length=m.length
     ·rw[if_pos hl] at e
      have hd':D.depL l+1<=n:=by unfold D.dep at hd;exact hd
      have ih':∀{d1 d2:D} {b:Bool} {v1 v2:V} {u1 u2:Value},d1.dep<=n-1->D.eqq d1 d2=some b->Is X.K A1 H d1 v1->Is X.K A2 H d2 v2->wv5 v1 u1->wv5 v2 u2->EqAt A.in1 s u1 u2 b:=
       λhd e h1 h2 r1 r2=>xu5 I (n-1) (A:=A.in1) hd (by rw[Around.in1_units];omega) e h1 h2 r1 r2
      have q:=RcAt.lists (A:=A) (e:=λj=>(va1 l m).getD j false) p1.isList p2.isList (by rw[l1,l2,hl]) hu0 (λj g1 g2=>zn0 e i1 i2 rv rv2 ih' (by omega) j g1 g2);have q':=RcNeAt.lists (A:=A) (e:=λj=>(va1 l m).getD j false) p1.isList p2.isList (by rw[l1,l2,hl]) hu0 (λj g1 g2=>zn0 e i1 i2 rv rv2 ih' (by omega) j g1 g2);have eb:=yj9 e;have el:l.length=(va1 l m).length:=by rw[zo4];omega
      rw[l1,el,zt9] at q q';have eb':b=(va1 l m).all id:=by rw[eb,hl];simp
      rw[eb'];exact⟨q,q'⟩
     ·rw[if_neg hl] at e
      cases e;exact⟨RcAt.lists_lengths p1.isList p2.isList (by rw[l1,l2];simpa using hl) hu0,RcNeAt.lists_lengths p1.isList p2.isList (by rw[l1,l2];simpa using hl) hu0⟩
   | _=>unfold D.eqq at e;cases e
 | dct _ _=>cases d2<;>(unfold D.eqq at e;cases e)
 | fl _=>cases d2<;>(unfold D.eqq at e;cases e)
def vu6(K:PySem.W.Frag)(neg:Bool):R2:=λx y H Q=>∃(A:Addr->Prop) (d1 d2:D) (b:Bool),Is K A H d1 x/\Is K A H d2 y/\d1.dep<=30/\D.eqq d1 d2=some b/\Q (.bl (if neg then !b else b)) H
def zf1{k:Nat}(hr:wv8 k X.A):OpR X (compareOp .Eq) (vu6 X.K false):=by
 intro A3 s σ H x y v u Q I rx ry h;obtain⟨A,d1,d2,b,h1,h2,hd,e,q⟩:=h;exact(wd9 I (n:=30) hd (by have:=hr.units;omega) e h1 h2 rx ry).1 _ _ _ _ ⟨.bl b,H,I,rfl,q⟩
def zq5{k:Nat}(hr:wv8 k X.A):OpR X (compareOp .NotEq) (vu6 X.K true):=by
 intro A3 s σ H x y v u Q I rx ry h;obtain⟨A,d1,d2,b,h1,h2,hd,e,q⟩:=h;exact(wd9 I (n:=30) hd (by have:=hr.units;omega) e h1 h2 rx ry).2 _ _ _ _ ⟨.bl (!b),H,I,rfl,q⟩
def inD(x:D):List D->Option Bool
 | []=>some false
 | d::l=>(D.eqq d x).bind λb=>(inD x l).map λc=>b||c
def vu5(K:PySem.W.Frag)(neg:Bool):R2:=λx y H Q=>∃(A:Addr->Prop) (d:D) (l:List D) (b:Bool),Is K A H d x/\(Is K A H (.lst l) y\/Is K A H (.tup l) y)/\D.depL l<=30/\inD d l=some b/\Q (.bl (if neg then !b else b)) H
open Classical in
def vj4(x:D)(l:List D)(us:List Value)(u:Value):Bool:=decide (∃(j:Nat) (d:D),us[j]?=some u/\l[j]?=some d/\D.eqq d x=some true)
def yg5:vj4 x l us u=true↔∃(j:Nat) (d:D),us[j]?=some u/\l[j]?=some d/\D.eqq d x=some true:=by
 classical
 unfold vj4;exact decide_eq_true_iff
theorem yw5:∀{l:List D} {b:Bool},inD x l=some b->∀(j:Nat) (d:D),l[j]?=some d->∃c,D.eqq d x=some c
 | [],_,_,_,_,h=>by simp at h
 | a::l,b,e,j,d,h=>by
   unfold inD at e;cases q1:D.eqq a x with
   | none=>rw[q1] at e;cases e
   | some c=>
     cases q2:inD x l with
     | none=>rw[q1,q2] at e;cases e
     | some c2=>
       cases j with
       | zero=>simp at h;subst h;exact⟨c,q1⟩
       | succ j=>exact yw5 q2 j d (by simpa using h)
theorem xt9:∀{l:List D} {b:Bool},inD x l=some b->(b=true↔∃(j:Nat) (d:D),l[j]?=some d/\D.eqq d x=some true)
 | [],b,e=>by
   unfold inD at e;cases e;constructor
   ·intro h;cases h
   ·rintro ⟨j,d,h,_⟩;simp at h
 | a::l,b,e=>by
   unfold inD at e;cases q1:D.eqq a x with
   | none=>rw[q1] at e;cases e
   | some c=>
     cases q2:inD x l with
     | none=>rw[q1,q2] at e;cases e
     | some c2=>
       rw[q1,q2] at e;have e:some (c||c2)=some b:=e;cases e;have ih:=xt9 q2;rw[Bool.or_eq_true];constructor
       ·rintro (h | h)
        ·subst h;exact⟨0,a,rfl,q1⟩
        ·obtain⟨j,d,h1,h2⟩:=ih.mp h
         exact⟨j+1,d,by simpa using h1,h2⟩
       ·rintro ⟨j,d,h1,h2⟩
        cases j with
        | zero=>
          simp at h1;subst h1;rw[q1] at h2;cases h2;exact .inl rfl
        | succ j=>exact .inr (ih.mpr ⟨j,d,by simpa using h1,h2⟩)
def yf7(I:Inv X A3 σ H s){b:Bool}(hd:D.depL l<=30)(hu:A.units+30<cLine)(e:inD x l=some b)(i:IsL X.K A1 H l vs)(rv:wv6 vs its)(h:Is X.K A1 H x v)(r:wv5 v u) :
 (∀y∈its.toArray,EqAt A s y u (vj4 x l its y))/\its.toArray.any (vj4 x l its)=b:=by
 have at_:∀(j:Nat) (y:Value),its[j]?=some y->∃d w,l[j]?=some d/\Is X.K A1 H d w/\wv5 w y:=λj y hy=>by
  have hj:j<its.length:=(Ac0.mp hy).1;have hl:j<l.length:=by rw[i.length,rv.length];exact hj
  obtain⟨w,hw,iw⟩:=i.get (Ad0 hl);obtain⟨y',hy',ry⟩:=rv.get hw;rw[hy] at hy';cases hy';exact⟨_,w,Ad0 hl,iw,ry⟩
 have eqs:∀(j:Nat) (y:Value) (d:D) (c:Bool),its[j]?=some y->l[j]?=some d->D.eqq d x=some c->EqAt A s y u c:=λj y d c hy hd' ec=>by
  obtain⟨d2,w,h2,iw,ry⟩:=at_ j y hy;rw[hd'] at h2;cases h2;exact xu5 I 30 (Av0 (yr6 hd') hd) hu ec iw h ry r
 constructor
 ·intro y hy
  by_cases hc:∃(j:Nat) (d:D),its[j]?=some y/\l[j]?=some d/\D.eqq d x=some true
  ·obtain⟨j,d,h1,h2,h3⟩:=hc
   have:vj4 x l its y=true:=yg5.mpr ⟨j,d,h1,h2,h3⟩;rw[this];exact eqs j y d true h1 h2 h3
  ·have:vj4 x l its y=false:=by cases q:vj4 x l its y with
    | false=>rfl
    | true=>exact(hc (yg5.mp q)).elim
   rw[this];obtain⟨j,hj,ej⟩:=List.mem_iff_getElem.mp (show y∈its by simpa using hy);have hy':its[j]?=some y:=by rw[Ad0 hj,ej]
   obtain⟨d,w,h2,iw,ry⟩:=at_ j y hy';obtain⟨c,ec⟩:=yw5 e j d h2;cases c with
   | false=>exact eqs j y d false hy' h2 ec
   | true=>exact(hc ⟨j,d,hy',h2,ec⟩).elim
 ·apply Cd0.mpr
  rw[xt9 e];have e1:its.toArray.any (vj4 x l its)=its.any (vj4 x l its):=by simp
  rw[e1,Cj0];constructor
  ·rintro ⟨y,_,hy⟩
   obtain⟨j,d,_,h2,h3⟩:=yg5.mp hy;exact⟨j,d,h2,h3⟩
  ·rintro ⟨j,d,h2,h3⟩
   have hj:j<its.length:=by rw[<-rv.length,<-i.length];exact(Ac0.mp h2).1
   refine⟨its[j],List.getElem_mem hj,?_⟩;exact yg5.mpr ⟨j,d,Ad0 hj,h2,h3⟩
def xr9{k:Nat}(hr:wv8 k X.A):OpR X (compareOp .In) (vu5 X.K false):=by
 intro A3 s σ H x y v u Q I rx ry h;obtain⟨A,d,l,b,h1,h2,hd,e,q⟩:=h;have hu:X.A.in1.units+30<cLine:=by rw[Around.in1_units];have:=hr.units;omega
 rcases h2 with h2 | h2
 ·obtain⟨a,vs,ea,_,s1,i1⟩:=Is.lst_iff.mp h2
  subst ea;cases ry;obtain⟨its,rv,p,_⟩:=I.list (.of s1);obtain⟨g1,g2⟩:=yf7 I hd hu e i1 rv h1 rx;exact in_listAt _ p.isList g1 ⟨.bl b,H,I,by rw[g2];rfl,q⟩
 ·obtain⟨a,vs,ea,s1,i1⟩:=Is.tup_sq h2
  subst ea;cases ry;obtain⟨its,rv,p,_⟩:=I.tuple s1;obtain⟨g1,g2⟩:=yf7 I hd hu e i1 rv h1 rx;exact in_tupleAt _ p g1 ⟨.bl b,H,I,by rw[g2];rfl,q⟩
def yh7{k:Nat}(hr:wv8 k X.A):OpR X (compareOp .NotIn) (vu5 X.K true):=by
 intro A3 s σ H x y v u Q I rx ry h;obtain⟨A,d,l,b,h1,h2,hd,e,q⟩:=h;have hu:X.A.in1.units+30<cLine:=by rw[Around.in1_units];have:=hr.units;omega
 rcases h2 with h2 | h2
 ·obtain⟨a,vs,ea,_,s1,i1⟩:=Is.lst_iff.mp h2
  subst ea;cases ry;obtain⟨its,rv,p,_⟩:=I.list (.of s1);obtain⟨g1,g2⟩:=yf7 I hd hu e i1 rv h1 rx;exact notIn_listAt _ p.isList g1 ⟨.bl (!b),H,I,by rw[g2];rfl,q⟩
 ·obtain⟨a,vs,ea,s1,i1⟩:=Is.tup_sq h2
  subst ea;cases ry;obtain⟨its,rv,p,_⟩:=I.tuple s1;obtain⟨g1,g2⟩:=yf7 I hd hu e i1 rv h1 rx;exact notIn_tupleAt _ p g1 ⟨.bl (!b),H,I,by rw[g2];rfl,q⟩
variable{S:Type}{W:Wd S}{c:Dx W}
def oEq(neg:Bool)(a b:D):Option D:=if a.dep<=30 then (D.eqq a b).map λx=>.bl (if neg then !x else x) else none
def oIn(neg:Bool)(a b:D):Option D:=match b with
 | .lst l=>if D.depL l<=30 then (inD a l).map λx=>.bl (if neg then !x else x) else none
 | .tup l=>if D.depL l<=30 then (inD a l).map λx=>.bl (if neg then !x else x) else none
 | _=>none
open H in
def zd4{K:PySem.W.Frag}{neg:Bool}(hK:c.K=K):OpD c (vu6 K neg) (oEq neg):=by
 subst hK;intro d1 d2 v1 v2 H st d Q ok z1 z2 e q;unfold oEq at e;split at e
 ·rename_i hd
  cases h:D.eqq d1 d2 with
  | none=>rw[h] at e;cases e
  | some b=>
    rw[h] at e;cases e;exact⟨_,d1,d2,b,z1,z2,hd,h,q _ H Ext.refl ok zq7⟩
 ·cases e
open H in
def ym7{K:PySem.W.Frag}{neg:Bool}(hK:c.K=K):OpD c (vu5 K neg) (oIn neg):=by
 subst hK;intro d1 d2 v1 v2 H st d Q ok z1 z2 e q;unfold oIn at e;split at e
 ·rename_i l
  split at e
  ·rename_i hd
   cases h:inD d1 l with
   | none=>rw[h] at e;cases e
   | some b=>
     rw[h] at e;cases e;exact⟨_,d1,l,b,z1,.inl z2,hd,h,q _ H Ext.refl ok zq7⟩
  ·cases e
 ·rename_i l
  split at e
  ·rename_i hd
   cases h:inD d1 l with
   | none=>rw[h] at e;cases e
   | some b=>
     rw[h] at e;cases e;exact⟨_,d1,l,b,z1,.inr z2,hd,h,q _ H Ext.refl ok zq7⟩
  ·cases e
 ·cases e
end
section
variable{X:Cx}{S:Type}{W:Wd S}{c:Dx W}{g:Gr}{a b e:Expr}{wx2:List Expr}{pos:Pos}{fa fb fc:Fn S}{ga gb gc:Gr}
def vm3(S:Type)(f1 f2:Fn S):Fn S:=λρ st=>(f1 ρ st).bind λd st1=>match d with
 | .bl true=>f2 ρ st1
 | .bl false=>.ok (.bl false) st1
 | _=>.bad
def ub1(S:Type)(f1 f2:Fn S):Fn S:=λρ st=>(f1 ρ st).bind λd st1=>match d with
 | .bl true=>.ok (.bl true) st1
 | .bl false=>f2 ρ st1
 | _=>.bad
def vp0(S:Type)(f1:Fn S):Fn S:=λρ st=>(f1 ρ st).bind λd st1=>match d with
 | .bl b=>.ok (.bl (!b)) st1
 | _=>.bad
def yk2{op}(h:DE X c g a f):DE X c g (.BoolOp op [a] pos) f:=wp8 h
def yk3(ha:DE X c ga a fa)(hb:DE X c g (.BoolOp .And (b::wx2) pos) fb):DE X c g (.BoolOp .And (a::b::wx2) pos) (vm3 S fa fb):=
 (wq2 ha hb).imp λσ H Q hI31=>by
  obtain⟨ρ,st,R,ok,w⟩:=hI31;refine zh5 (Go.bind (g':=ga) (k:=λd ρ st1=>match d with | .bl true=>fb ρ st1 | .bl false=>.ok (.bl false) st1 | _=>.bad) R ok w) λv H1 hI107=>?_
  obtain⟨d,st1,R1,ok1,e1,z,w1⟩:=hI107;cases d with
  | bl k=>
    have zv:v=.bl k:=Is.bl_iff.mp (show Is c.K (λb=>¬W.mv b) H1 (.bl k) v from z.toR);refine⟨k,zv,?_⟩;cases k with
    | true=>exact vn1 ⟨ρ,st1,R1,ok1,w1⟩
    | false=>exact vo7 (w1 (.bl false) H1 Ext.refl ok1 (New.val R1 zq7 g))
  | _=>exact(show False from w1).elim
def vx9(ha:DE X c ga a fa)(hb:DE X c g (.BoolOp .Or (b::wx2) pos) fb):DE X c g (.BoolOp .Or (a::b::wx2) pos) (ub1 S fa fb):=
 (vv1 ha hb).imp λσ H Q hI32=>by
  obtain⟨ρ,st,R,ok,w⟩:=hI32;refine zh5 (Go.bind (g':=ga) (k:=λd ρ st1=>match d with | .bl true=>.ok (.bl true) st1 | .bl false=>fb ρ st1 | _=>.bad) R ok w) λv H1 hI108=>?_
  obtain⟨d,st1,R1,ok1,e1,z,w1⟩:=hI108;cases d with
  | bl k=>
    have zv:v=.bl k:=Is.bl_iff.mp (show Is c.K (λb=>¬W.mv b) H1 (.bl k) v from z.toR);refine⟨k,zv,?_⟩;cases k with
    | false=>exact vo7 ⟨ρ,st1,R1,ok1,w1⟩
    | true=>exact vn1 (w1 (.bl true) H1 Ext.refl ok1 (New.val R1 zq7 g))
  | _=>exact(show False from w1).elim
def wt7(ha:DE X c ga a fa):DE X c g (.UnaryOp .Not a pos) (vp0 S fa):=
 (wp9 ha).imp λσ H Q hI33=>by
  obtain⟨ρ,st,R,ok,w⟩:=hI33;refine zh5 (Go.bind (g':=ga) (k:=λd ρ st1=>match d with | .bl b=>.ok (.bl (!b)) st1 | _=>.bad) R ok w) λv H1 hI109=>?_
  obtain⟨d,st1,R1,ok1,e1,z,w1⟩:=hI109;cases d with
  | bl k=>
    have zv:v=.bl k:=Is.bl_iff.mp (show Is c.K (λb=>¬W.mv b) H1 (.bl k) v from z.toR);exact⟨k,zv,w1 (.bl (!k)) H1 Ext.refl ok1 (New.val R1 zq7 g)⟩
  | _=>exact(show False from w1).elim
def yx1(S:Type)(o o':D->D->Option D)(f1 f2 f3:Fn S):Fn S:=λρ st=>(f1 ρ st).bind λd1 st1=>(f2 ρ st1).bind λd2 st2=>match o d1 d2 with
 | some (.bl true)=>(f3 ρ st2).bind λd3 st3=>ww7 (o' d2 d3) st3
 | some (.bl false)=>.ok (.bl false) st2
 | _=>.bad
theorem xy3(hr:OpD c r o)(hr':OpD c r' o')(h:tD c g (yx1 S o o' fa fb fc) σ H Q):wd6 r r' (tD c ga fa) (tD c gb fb) (tD c gc fc) σ H Q:=by
 obtain⟨ρ,st,R,ok,w⟩:=h;refine zh5 (Go.bind (g':=ga) (k:=λd1 ρ st1=>(fb ρ st1).bind λd2 st2=>match o d1 d2 with | some (.bl true)=>(fc ρ st2).bind λd3 st3=>ww7 (o' d2 d3) st3 | some (.bl false)=>.ok (.bl false) st2 | _=>.bad) R ok w) λv1 H1 hI110=>?_
 obtain⟨d1,st1,R1,ok1,e1,z1,w1⟩:=hI110;refine zh5 (Go.bind (g':=gb) (k:=λd2 ρ st2=>match o d1 d2 with | some (.bl true)=>(fc ρ st2).bind λd3 st3=>ww7 (o' d2 d3) st3 | some (.bl false)=>.ok (.bl false) st2 | _=>.bad) R1 ok1 w1) λv2 H2 hI111=>?_
 obtain⟨d2,st2,R2,ok2,e2,z2,w2⟩:=hI111;cases q:o d1 d2 with
 | none=>simp only[q] at w2;exact(show False from w2).elim
 | some d=>
   simp only[q] at w2;cases d with
   | bl k=>
     refine hr d1 d2 v1 v2 H2 st2 (.bl k) _ ok2 (z1.toR.ext e2 ok1) z2.toR q λv H' e' ok' n=>?_
     refine⟨k,Is.bl_iff.mp n,?_⟩;have R':=R2.ext ok2 e';cases k with
     | false=>exact vo7 (w2 (.bl false) H' e' ok' (New.val R2 zq7 g))
     | true=>
       refine vn1 ?_;have w3:Go c g σ (λρ st=>(fc ρ st).bind λd3 st3=>ww7 (o' d2 d3) st3) H2 Q ρ st2:=w2;refine zh5 (Go.bind (g':=gc) (k:=λd3 _ st3=>ww7 (o' d2 d3) st3) R' ok' (w3.from e' ok')) λv3 H3 hI112=>?_
       obtain⟨d3,st3,R3,ok3,e3,z3,w4⟩:=hI112;obtain⟨d,e5,q5⟩:=Go.done w4 ok3;exact hr' d2 d3 v2 v3 H3 st3 d Q ok3 ((z2.toR.ext e' ok2).ext e3 ok') z3.toR e5 λv H' a b n=>q5 v H' a b (n.val R3 g)
   | _=>exact(show False from w2).elim
def yg3(ho:OpR X (compareOp op) r)(ho':OpR X (compareOp op') r')(hr:OpD c r o)(hr':OpD c r' o')(ha:DE X c ga a fa)(hb:DE X c gb b fb)(hd:DE X c gc d fc)(hm:lastMarks [op,op'] [b,d]=false:=by with_unfolding_all rfl):DE X c g (.Compare a [op,op'] [b,d] pos) (yx1 S o o' fa fb fc):=
 (xz9 ho ho' ha hb hd hm).imp λσ H Q h=>xy3 hr hr' h
def D.isNon:D->Bool
 | .non=>true
 | _=>false
def va5(neg:Bool)(a b:D):Option D:=match b with
 | .non=>some (.bl (if neg then !a.isNon else a.isNon))
 | _=>none
theorem ws1{K:PySem.W.Frag}{A:Addr->Prop}{H:Hp}{d:D}{v:V}(h:Is K A H d v):(decide (v=V.non))=d.isNon:=by
 cases d with
 | non=>rw[Is.non_iff.mp h];rfl
 | bl b=>rw[Is.bl_iff.mp h];rfl
 | int i=>rw[Is.int_iff.mp h];rfl
 | str x=>rw[Is.str_iff.mp h];rfl
 | tup l=>obtain⟨a,vs,e,_⟩:=Is.tup_sq h;rw[e];rfl
 | lst l=>obtain⟨a,vs,e,_⟩:=Is.lst_iff.mp h;rw[e];rfl
 | dct k l=>obtain⟨a,vs,e,_⟩:=Is.dct_iff.mp h;rw[e];rfl
 | fl l=>obtain⟨a,o,vs,e,_⟩:=Is.fl_iff.mp h;rw[e];rfl
theorem ym6:OpD c (λx y H Q=>y=.non/\Q (.bl (decide (x=.non))) H) (va5 false):=by
 intro d1 d2 v1 v2 H st d Q ok z1 z2 e q;cases d2 with
 | non=>
   cases e;refine⟨Is.non_iff.mp z2,?_⟩;rw[ws1 z1];exact q _ H Ext.refl ok zq7
 | _=>cases e
def ub3(S:Type)(t:FnT S)(f1 f2:Fn S):Fn S:=λρ st=>(t ρ st).bind λk st1=>if k=true then f1 ρ st1 else f2 ρ st1
def ub2(S:Type)(f:Fn S):Fn S:=λρ st=>(f ρ st).bind λd st1=>match d with
 | .int i=>.ok (.int (-i)) st1
 | _=>.bad
def yo3(ha:DE X c ga a fa):DE X c g (.UnaryOp .USub a pos) (ub2 S fa):=
 (vv0 wn5 ha).imp λσ H Q hI34=>by
  obtain⟨ρ,st,R,ok,w⟩:=hI34;refine zh5 (Go.bind (g':=ga) (k:=λd _ st1=>match d with | .int i=>.ok (.int (-i)) st1 | _=>.bad) R ok w) λv H1 hI113=>?_
  obtain⟨d,st1,R1,ok1,e1,z,w1⟩:=hI113;cases d with
  | int i=>exact⟨i,Is.int_iff.mp (show Is c.K (λb=>¬W.mv b) H1 (.int i) v from z.toR),w1 (.int (-i)) H1 Ext.refl ok1 (New.val R1 zu6 g)⟩
  | _=>exact(show False from w1).elim
end
def D.ty:D->String
 | .non=>"NoneType"
 | .bl _=>"bool"
 | .int _=>"int"
 | .str _=>"str"
 | .tup _=>"tuple"
 | .lst _=>"list"
 | .dct _ _=>"dict"
 | .fl _=>"list"
inductive Bt where
 | int | bool | str | list | tuple | dict
def Bt.nm:Bt->String
 | .int=>"int"
 | .bool=>"bool"
 | .str=>"str"
 | .list=>"list"
 | .tuple=>"tuple"
 | .dict=>"dict"
def isI(T:Bt)(d:D):Bool:=match T,d with
 | .int,.int _=>true
 | .int,.bl _=>true
 | .bool,.bl _=>true
 | .str,.str _=>true
 | .list,.lst _=>true
 | .list,.fl _=>true
 | .tuple,.tup _=>true
 | .dict,.dct _ _=>true
 | _,_=>false
def wk3(K:PySem.W.Frag)(T:Bt)(d:D):PySem.W.kitOne K (.type d.ty) (.type T.nm)=some (isI T d):=by
 cases T<;>cases d<;>first | rfl | decide
section
variable{X:Cx}{A3:List (Addr×Obj)}{σ:St}{H:Hp}{s:Shared}
theorem wk5(T:Bt)(I:Inv X A3 σ H s)(h:Is X.K A H d v)(r:wv5 v u)(hq:∀tk,Q (.bool (isI T d)) { s with toks:=tk }) :
 wpAny (model X.prog X.w) A0 (call (.builtin "isinstance") [u,.type T.nm]) Q E s:=by
 have e:=wk3 X.K T d;cases d with
 | non=>rw[Is.non_iff.mp h] at r;exact zl3 I r .non e hq
 | bl b=>rw[Is.bl_iff.mp h] at r;exact zl3 I r (.bl b) e hq
 | int i=>rw[Is.int_iff.mp h] at r;exact zl3 I r (.int i) e hq
 | str x=>rw[Is.str_iff.mp h] at r;exact zl3 I r (.str x) e hq
 | lst l=>obtain⟨a,vs,ea,_,e1,_⟩:=Is.lst_iff.mp h;rw[ea] at r;exact zl3 I r (.lst e1) e hq
 | fl l=>obtain⟨a,o,vs,ea,e1,_⟩:=Is.fl_iff.mp h;rw[ea] at r;exact zl3 I r (.frz e1) e hq
 | dct k l=>
   obtain⟨a,vs,ea,_,_,q⟩:=Is.dct_iff.mp h;rw[ea] at r;rcases q with⟨_,_,_,e1⟩ | ⟨_,_,_,e1⟩
   ·exact zl3 I r (.dK e1) e hq
   ·exact zl3 I r (.dT e1) e hq
 | tup l=>
   obtain⟨a,vs,ea,s1,_⟩:=Is.tup_sq h;rw[ea] at r;cases r;obtain⟨its,_,⟨o,h1,h2,_⟩,_⟩:=I.tuple s1;exact PySem.W.kia_one PySem.W.kitx_tuple I.kIn ⟨o,h1,h2⟩ e (λz=>nomatch z) hq
variable{S:Type}{W:Wd S}{c:Dx W}{g ga:Gr}
def fIs(S:Type)(T:Bt)(f:Fn S):Fn S:=λρ st=>(f ρ st).bind λd st1=>.ok (.bl (isI T d)) st1
def ze6{x:Str}(T:Bt)(hK:c.K=X.K)(hg:Gl X "isinstance")(hm:X.mg "isinstance" = none)(hg2:Gl X x)(hm2:X.mg x=none)(hv:bootBuiltins x=some (.type T.nm))(he:DE X c ga e f)(hs:starEach (e::[.Name x p2]) X.env=(false,eval e X.env)::starEach [.Name x p2] X.env:=by rfl)(hs2:starEach [.Name x p2] X.env=(false,eval (.Name x p2) X.env)::starEach [] X.env:=by rfl)(hpl:(backTo pos (starEach [.Name x p2] X.env)).any (·.1)=false:=by rfl)(hn:x≠"__name__":=by decide)(hd:(x == ("__debug__" : Str))=false:=by decide) :
 DE X c g (.Call (.Name "isinstance" p) [e,.Name x p2] [] pos) (fIs S T f):=by
 have hp:PE X (.Call (.Name "isinstance" p) [e,.Name x p2] [] pos) (tCB (λvs H Q=>∃A d v,vs=[v,.ty T.nm]/\Is X.K A H d v/\Q (.bl (isI T d)) H) (vi5 (tD c ga f) (vi5 (tC (.ty T.nm)) vz4))):=by
  refine zs1 (id:="isinstance") ?_ hg hm boot_isinstance (zb8 he (zb8 (xr5 hg2 hm2 hv rfl hn hd) zf4 hs2) hs) (by decide) (by decide) hs hpl;intro A3 s σ H xs us Q I r h;obtain⟨A,d,v,rfl,hi,q⟩:=h;obtain⟨u,w',rfl,r1,r2⟩:=vc3 r;cases r2;exact wk5 T I hi r1 λtk=>⟨.bl _,H,I.tok tk,rfl,q⟩
 refine hp.imp λσ H Q hI114=>?_
 obtain⟨ρ,st,R,ok,w⟩:=hI114;refine zh5 (Go.bind (g':=ga) (k:=λd _ st1=>.ok (.bl (isI T d)) st1) R ok w) λv H1 hI115=>?_
 obtain⟨d,st1,R1,ok1,e1,z,w1⟩:=hI115;exact⟨_,d,v,rfl,hK▸(show Is c.K (λb=>¬W.mv b) H1 d v from z.toR),w1 _ H1 Ext.refl ok1 (New.val R1 zq7 g)⟩
end
section
variable{X:Cx}{S:Type}{W:Wd S}{c:Dx W}
def va9:List D->Option D
 | [.lst l]=>some (.int l.length)
 | [.tup l]=>some (.int l.length)
 | _=>none
open H in
def zl8{K:PySem.W.Frag}(hK:c.K=K):wz3 c (λxs H Q=>∃p ys,xs=[.ref p]/\(SqL K H p ys\/SqT K H p ys)/\Q (.int ys.length) H) va9:=by
 subst hK;intro l vs H st d Q ok z e q;unfold va9 at e;split at e
 ·rename_i m
  cases e;obtain⟨v,r,e1,i1,i2⟩:=IsL.cons.mp z;obtain⟨a,us,ea,_,s1,i3⟩:=Is.lst_iff.mp i1;rw[IsL.nil.mp i2,ea] at e1;exact⟨a,us,e1,.inl (.of s1),by rw[<-i3.length];exact q _ H Ext.refl ok zu6⟩
 ·rename_i m
  cases e;obtain⟨v,r,e1,i1,i2⟩:=IsL.cons.mp z;obtain⟨a,us,ea,s1,i3⟩:=Is.tup_sq i1;rw[IsL.nil.mp i2,ea] at e1;exact⟨a,us,e1,.inr s1,by rw[<-i3.length];exact q _ H Ext.refl ok zu6⟩
 ·cases e
def yd8:List D->Option D
 | [.lst l]=>if D.immL l=true then some (.tup l) else none
 | [.tup l]=>if D.immL l=true then some (.tup l) else none
 | _=>none
open H in
def zp3{K:PySem.W.Frag}(hK:c.K=K):wz3 c (λxs H Q=>∃p ys,xs=[.ref p]/\((SqL K H p ys/\∀l,H l=none->Q (.ref l) (upd H l (.tup ys)))\/(SqT K H p ys/\Q (.ref p) H))) yd8:=by
 subst hK;intro l vs H st d Q ok z e q;unfold yd8 at e;split at e
 ·rename_i m
  split at e
  ·rename_i im
   cases e;obtain⟨v,r,e1,i1,i2⟩:=IsL.cons.mp z;obtain⟨a,us,ea,_,s1,i3⟩:=Is.lst_iff.mp i1;rw[IsL.nil.mp i2,ea] at e1;exact⟨a,us,e1,.inl ⟨.of s1,λp hp=>q _ _ (Ext.laid hp) (zg7 ok hp) (New.tup ok hp (λ_ n=>n) im i3)⟩⟩
  ·cases e
 ·rename_i m
  split at e
  ·rename_i im
   cases e;obtain⟨v,r,e1,i1,i2⟩:=IsL.cons.mp z;obtain⟨a,us,ea,s1,i3⟩:=Is.tup_iff.mp i1;rw[IsL.nil.mp i2,ea] at e1;exact⟨a,us,e1,.inr ⟨.of s1,q _ H Ext.refl ok (Is.tup s1 (IsL.ofImm im i3))⟩⟩
  ·cases e
 ·cases e
def vg9:List D->Option D
 | [.lst l]=>if D.immL l=true then some (.lst l) else none
 | [.tup l]=>if D.immL l=true then some (.lst l) else none
 | _=>none
open H in
def xc3{K:PySem.W.Frag}(hK:c.K=K):wz3 c (λxs H Q=>∃p ys,xs=[.ref p]/\(SqL K H p ys\/SqT K H p ys)/\∀l,H l=none->Q (.ref l) (upd H l (.lst ys))) vg9:=by
 subst hK;intro l vs H st d Q ok z e q;unfold vg9 at e;split at e
 ·rename_i m
  split at e
  ·rename_i im
   cases e;obtain⟨v,r,e1,i1,i2⟩:=IsL.cons.mp z;obtain⟨a,us,ea,_,s1,i3⟩:=Is.lst_iff.mp i1;rw[IsL.nil.mp i2,ea] at e1;exact⟨a,us,e1,.inl (.of s1),λp hp=>q _ _ (Ext.laid hp) (zg7 ok hp) (New.lst ok hp (λ_ n=>n) im i3)⟩
  ·cases e
 ·rename_i m
  split at e
  ·rename_i im
   cases e;obtain⟨v,r,e1,i1,i2⟩:=IsL.cons.mp z;obtain⟨a,us,ea,s1,i3⟩:=Is.tup_sq i1;rw[IsL.nil.mp i2,ea] at e1;exact⟨a,us,e1,.inr s1,λp hp=>q _ _ (Ext.laid hp) (zg7 ok hp) (New.lst ok hp (λ_ n=>n) im i3)⟩
  ·cases e
 ·cases e
def vl4:List D->Option D
 | [.int i]=>some (.int i)
 | [.bl k]=>some (.int (if k then 1 else 0))
 | _=>none
open H in
def yy2:wz3 c (λxs H Q=>(∃i,xs=[.int i]/\Q (.int i) H)\/∃k,xs=[.bl k]/\Q (.int (if k then 1 else 0)) H) vl4:=by
 intro l vs H st d Q ok z e q;unfold vl4 at e;split at e
 ·rename_i i
  cases e;obtain⟨v,r,e1,i1,i2⟩:=IsL.cons.mp z;rw[IsL.nil.mp i2,Is.int_iff.mp i1] at e1;exact .inl ⟨i,e1,q _ H Ext.refl ok zu6⟩
 ·rename_i i
  cases e;obtain⟨v,r,e1,i1,i2⟩:=IsL.cons.mp z;rw[IsL.nil.mp i2,Is.bl_iff.mp i1] at e1;exact .inr ⟨i,e1,q _ H Ext.refl ok zu6⟩
 ·cases e
def xs3(f:Int->Int->Int):List D->Option D
 | [.int i,.int j]=>some (.int (f i j))
 | _=>none
open H in
def zx0(f:Int->Int->Int):wz3 c (λxs H Q=>∃i j,xs=[.int i,.int j]/\Q (.int (f i j)) H) (xs3 f):=by
 intro l vs H st d Q ok z e q;unfold xs3 at e;split at e
 ·rename_i i j
  cases e;obtain⟨v,r,e1,i1,i2⟩:=IsL.cons.mp z;obtain⟨v',r',e1',i1',i2'⟩:=IsL.cons.mp i2;rw[e1',IsL.nil.mp i2',Is.int_iff.mp i1,Is.int_iff.mp i1'] at e1;exact⟨i,j,e1,q _ H Ext.refl ok zu6⟩
 ·cases e
def zi4:List D->Option (List Bool)
 | []=>some []
 | .bl b::l=>(zi4 l).map λr=>b::r
 | _=>none
theorem yo8{K:PySem.W.Frag}{A:Addr->Prop}{H:Hp}:∀{l:List D} {vs:List V} {bs:List Bool},zi4 l=some bs->IsL K A H l vs->vs=bs.map V.bl
 | [],vs,bs,e,h=>by cases e;exact IsL.nil.mp h
 | .bl b::l,vs,bs,e,h=>by
   unfold zi4 at e;cases q:zi4 l with
   | none=>rw[q] at e;cases e
   | some r=>
     rw[q] at e;cases e;obtain⟨v,us,e1,i1,i2⟩:=IsL.cons.mp h;rw[e1,Is.bl_iff.mp i1,yo8 q i2];rfl
 | .non::_,_,_,e,_=>by simp[zi4] at e
 | .int _::_,_,_,e,_=>by simp[zi4] at e
 | .str _::_,_,_,e,_=>by simp[zi4] at e
 | .tup _::_,_,_,e,_=>by simp[zi4] at e
 | .lst _::_,_,_,e,_=>by simp[zi4] at e
 | .dct _ _::_,_,_,e,_=>by simp[zi4] at e
def zz7(f:List Bool->Bool):List D->Option D
 | [.lst l]=>(zi4 l).map λbs=>.bl (f bs)
 | _=>none
open H in
def zx1{K:PySem.W.Frag}(f:List Bool->Bool):wz3 c (λxs H Q=>∃(a:Addr) (bs:List Bool),xs=[.ref a]/\SqL K H a (bs.map V.bl)/\Q (.bl (f bs)) H) (zz7 f):=by
 intro l vs H st d Q ok z e q;unfold zz7 at e;split at e
 ·rename_i m
  cases qb:zi4 m with
  | none=>rw[qb] at e;cases e
  | some bs=>
    rw[qb] at e;cases e;obtain⟨v,r,e1,i1,i2⟩:=IsL.cons.mp z;obtain⟨a,us,ea,_,s1,i3⟩:=Is.lst_iff.mp i1;rw[IsL.nil.mp i2,ea] at e1;rw[yo8 qb i3] at s1;exact⟨a,bs,e1,.of s1,q _ H Ext.refl ok zq7⟩
 ·cases e
def vl7:D->D->Option D
 | .lst l,.lst m=>if D.immL l=true/\D.immL m=true/\l.length+m.length<=sizeLine then some (.lst (l++m)) else none
 | _,_=>none
open H in
def wr0:OpD c vq8 vl7:=by
 intro d1 d2 v1 v2 H st d Q ok z1 z2 e q;unfold vl7 at e;split at e
 ·rename_i l m
  split at e
  ·rename_i h
   cases e;obtain⟨a,vs,ea,_,s1,i1⟩:=Is.lst_iff.mp z1;obtain⟨b,us,eb,_,s2,i2⟩:=Is.lst_iff.mp z2;exact⟨a,b,vs,us,ea,eb,s1,s2,by rw[<-i1.length,<-i2.length];exact h.2.2,λp hp=>q _ _ (Ext.laid hp) (zg7 ok hp) (New.lst ok hp (λ_ n=>n) (zg9 h.1 h.2.1) (i1.append i2))⟩
  ·cases e
 ·cases e
def vh0:D->D->Option D
 | .tup l,.tup m=>if D.immL l=true/\D.immL m=true/\l.length+m.length<=sizeLine/\l.isEmpty=false then some (.tup (l++m)) else none
 | _,_=>none
open H in
def wj7{K:PySem.W.Frag}(hK:c.K=K):OpD c (vi7 K) vh0:=by
 subst hK;intro d1 d2 v1 v2 H st d Q ok z1 z2 e q;unfold vh0 at e;split at e
 ·rename_i l m
  split at e
  ·rename_i h
   cases e;obtain⟨a,vs,ea,s1,i1⟩:=Is.tup_iff.mp z1;obtain⟨b,us,eb,s2,i2⟩:=Is.tup_sq z2;have hl:vs≠[]:=λz=>by
    have:=i1.length;rw[z] at this;have h4:=h.2.2.2;cases l with
    | nil=>cases h4
    | cons _ _=>cases this
   refine⟨a,b,vs,us,ea,eb,.of s1,s2,hl,by rw[<-i1.length,<-i2.length];exact h.2.2.1,λhz=>?_,λ_ p hp=>q _ _ (Ext.laid hp) (zg7 ok hp) (New.tup ok hp (λ_ n=>n) (zg9 h.1 h.2.1) (i1.append i2))⟩;have hm:m=[]:=by
    have:=i2.length;rw[hz] at this;exact List.length_eq_zero_iff.mp this
   rw[hm,Az0] at q;exact q _ H Ext.refl ok (Is.tup s1 (IsL.ofImm h.1 i1))
  ·cases e
 ·cases e
end
def yw1:D->Option Key
 | .int i=>some (.inl i)
 | .str x=>some (.inr x)
 | _=>none
def vc1:List D->Option (List Key)
 | []=>some []
 | d::l=>(yw1 d).bind λk=>(vc1 l).map λr=>k::r
def ze1:D->Option (List Key)
 | .tup l=>vc1 l
 | _=>none
def xb6(k:Key):yw1 (vg0 k)=some k:=by cases k<;>rfl
theorem yw0:∀k:List Key,vc1 (k.map vg0)=some k
 | []=>rfl
 | a::k=>by
   show (yw1 (vg0 a)).bind (λx=>(vc1 (k.map vg0)).map λr=>x::r)=some (a::k);rw[xb6,yw0 k];rfl
def zi6(k:List Key):ze1 (wv9 k)=some k:=yw0 k
section
variable{K:PySem.W.Frag}{A:Addr->Prop}{H:Hp}
theorem xt1(e:yw1 d=some k)(h:Is K A H d v):v=kV k/\d=vg0 k:=by
 cases d with
 | int i=>cases e;exact⟨Is.int_iff.mp h,rfl⟩
 | str x=>cases e;exact⟨Is.str_iff.mp h,rfl⟩
 | _=>cases e
theorem xg8:∀{l:List D} {k:List Key} {vs:List V},vc1 l=some k->IsL K A H l vs->vs=k.map kV/\l=k.map vg0
 | [],k,vs,e,h=>by cases e;exact⟨IsL.nil.mp h,rfl⟩
 | d::l,k,vs,e,h=>by
   unfold vc1 at e;cases q1:yw1 d with
   | none=>rw[q1] at e;cases e
   | some a=>
     cases q2:vc1 l with
     | none=>rw[q1,q2] at e;cases e
     | some r=>
       rw[q1,q2] at e;have e:some (a::r)=some k:=e;cases e;obtain⟨v,us,e1,i1,i2⟩:=IsL.cons.mp h;obtain⟨e2,e3⟩:=xt1 q1 i1;obtain⟨e4,e5⟩:=xg8 q2 i2;subst e1 e2 e4;exact⟨rfl,by rw[e3,e5];rfl⟩
theorem yj2(e:ze1 d=some k)(h:Is K A H d v):∃b,v=.ref b/\H b=some (.tup (k.map kV))/\d=wv9 k:=by
 cases d with
 | tup l=>
   obtain⟨b,vs,e1,s,i⟩:=Is.tup_iff.mp h;obtain⟨e2,e3⟩:=xg8 (show vc1 l=some k from e) i;exact⟨b,e1,by rw[<-e2];exact s,by rw[e3];rfl⟩
 | _=>cases e
def wv3(k:List Key):List D->List D->Option D
 | d::ks,v::vs=>if ze1 d=some k then some v else wv3 k ks vs
 | _,_=>none
theorem yk4(k:List Key):∀{kk:List (List Key)} {vs:List D} {us:List V},kk.length=us.length->IsL K A H vs us->
 (wv3 k (kk.map wv9) vs=none/\va8 (kk.zip us) k=none)\/∃d v,wv3 k (kk.map wv9) vs=some d/\va8 (kk.zip us) k=some v/\Is K A H d v
 | [],vs,us,hl,h=>.inl ⟨by unfold wv3;cases vs<;>rfl,rfl⟩
 | x::kk,vs,us,hl,h=>by
   cases vs with
   | nil=>rw[IsL.nil.mp h] at hl;cases hl
   | cons d vs=>
     obtain⟨v,r,e1,i1,i2⟩:=IsL.cons.mp h;subst e1;have hl':kk.length=r.length:=by simpa using hl
     by_cases e:x=k
     ·refine .inr ⟨d,v,?_,zr4 (p:=(x,v)) e,i1⟩
      show (if ze1 (wv9 x)=some k then some d else _)=some d;rw[zi6,if_pos (by rw[e])]
     ·have e':¬ze1 (wv9 x)=some k:=by rw[zi6];exact λz=>e (Option.some.inj z)
      have a1:wv3 k ((x::kk).map wv9) (d::vs)=wv3 k (kk.map wv9) vs:=by
       show (if ze1 (wv9 x)=some k then some d else _)=_;rw[if_neg e']
      have a2:va8 ((x::kk).zip (v::r)) k=va8 (kk.zip r) k:=zr5 (p:=(x,v)) e;rw[a1,a2];exact yk4 k hl' i2
end
section
variable{X:Cx}{S:Type}{W:Wd S}{c:Dx W}{g ga gb:Gr}{a b:Expr}{pos:Pos}{fa fb:Fn S}
def wc6:DE X c g (.Dict [] [] pos) (fC S (.dct [.non] [])):=xz7.imp λσ H Q ⟨ρ,st,R,ok,w⟩ p hp=>
 w _ _ (Ext.laid hp) (zg7 ok hp) (New.val R (Is.dct_iff.mpr ⟨p,[],rfl,⟨zn7 ok hp,hp⟩,IsL.nil.mpr rfl,.inr ⟨[],rfl,rfl,zb3⟩⟩) g)
def vm9(neg:Bool)(k d:D):Option D:=match d with
 | .dct (.non::ks) vs=>(ze1 k).map λkk=>.bl (if neg then !(wv3 kk ks vs).isSome else (wv3 kk ks vs).isSome)
 | _=>none
def wf7{A:Addr->Prop}{H:Hp}{K:PySem.W.Frag}{k:D}{ks vs:List D}{kk:List Key}{v1 v2:V}(hk:ze1 k=some kk)(h1:Is K A H k v1)(h2:Is K A H (.dct (.non::ks) vs) v2) :
 ∃a o,v2=.ref a/\vb1 H a v1 o/\((wv3 kk ks vs=none/\o=none)\/∃d v,wv3 kk ks vs=some d/\o=some v/\Is K A H d v):=by
 obtain⟨b,eb,hb,_⟩:=yj2 hk h1;obtain⟨a,us,ea,_,i,q⟩:=Is.dct_iff.mp h2;rcases q with⟨k1,e1,_,_⟩ | ⟨k2,e2,el,eH⟩
 ·cases k1 with
  | nil=>cases e1
  | cons z r=>
    have:D.non=vg0 z:=(List.cons.inj e1).1;cases z<;>cases this
 ·have e3:ks=k2.map wv9:=(List.cons.inj e2).2
  subst e3 eb;refine⟨a,_,ea,vb1.t eH hb,?_⟩;rcases yk4 kk el i with⟨z1,z2⟩ | ⟨d,v,z1,z2,z3⟩
  ·exact .inl ⟨z1,z2⟩
  ·exact .inr ⟨d,v,z1,z2,z3⟩
open H in
def wn8{σ:St}{H:Hp}{Q:VK}{neg:Bool}(h:tD c g (f2 S (vm9 neg) fa fb) σ H Q):(λσ H Q=>tD c ga fa σ H λy H1=>tD c gb fb σ H1 λx H2=>∃a o,x=.ref a/\vb1 H2 a y o/\Q (.bl (if neg then !o.isSome else o.isSome)) H2) σ H Q:=by
 have hr:OpD c (λy x H2 Q=>∃a o,x=.ref a/\vb1 H2 a y o/\Q (.bl (if neg then !o.isSome else o.isSome)) H2) (vm9 neg):=by
  intro d1 d2 v1 v2 H st d Q ok z1 z2 e q;unfold vm9 at e;split at e
  ·rename_i ks vs
   cases hk:ze1 d1 with
   | none=>rw[hk] at e;cases e
   | some kk=>
     rw[hk] at e;cases e;obtain⟨a,o,ea,dg,ho⟩:=wf7 hk z1 z2;refine⟨a,o,ea,dg,?_⟩;have eo:o.isSome=(wv3 kk ks vs).isSome:=by
      rcases ho with⟨h1,h2⟩ | ⟨_,_,h1,h2,_⟩<;>rw[h1,h2]<;>rfl
     rw[eo];exact q _ H Ext.refl ok zq7
  ·cases e
 exact vg3 hr h
def wu1(hu:X.A.units+1<cLine)(ha:DE X c ga a fa)(hb:DE X c gb b fb)(hm:behindInMarks .In b=false:=by rfl):DE X c g (.Compare a [.In] [b] pos) (f2 S (vm9 false) fa fb):=
 (wq0 (wq3 hu ha hb) hm).imp λσ H Q q=>wn8 q
end
def wy8(k:List Key)(v:D)(ks vs:List D):List D×List D:=
 if (wv3 k ks vs).isSome=true then (ks,List.zipWith (λd u=>if ze1 d=some k then v else u) ks vs) else (ks++[wv9 k],vs++[v])
section
variable{K:PySem.W.Frag}{A:Addr->Prop}{H:Hp}
theorem xp5(hd:Is K A H d v):∀{kk:List (List Key)} {vs:List D} {us:List V},kk.length=us.length->IsL K A H vs us->
 ∃us',IsL K A H (List.zipWith (λx u=>if ze1 x=some k then d else u) (kk.map wv9) vs) us'/\kk.length=us'.length/\(kk.zip us).map (λkv=>if kv.1=k then (kv.1,v) else kv)=kk.zip us'
 | [],vs,us,hl,h=>⟨[],by simpa using IsL.nil.mpr rfl,rfl,rfl⟩
 | x::kk,vs,us,hl,h=>by
   cases vs with
   | nil=>rw[IsL.nil.mp h] at hl;cases hl
   | cons e vs=>
     obtain⟨u,r,e1,i1,i2⟩:=IsL.cons.mp h;subst e1;obtain⟨us',g1,g2,g3⟩:=xp5 hd (kk:=kk) (by simpa using hl) i2;by_cases z:x=k
     ·refine⟨v::us',?_,by simp[g2],?_⟩
      ·show IsL K A H ((if ze1 (wv9 x)=some k then d else e)::_) _
       rw[zi6,if_pos (by rw[z])];exact IsL.cons.mpr ⟨v,us',rfl,hd,g1⟩
      ·show (if x=k then (x,v) else (x,u))::_=(x,v)::kk.zip us'
       rw[if_pos z,<-g3];rfl
     ·refine⟨u::us',?_,by simp[g2],?_⟩
      ·show IsL K A H ((if ze1 (wv9 x)=some k then d else e)::_) _
       rw[zi6,if_neg (λq=>z (Option.some.inj q))];exact IsL.cons.mpr ⟨u,us',rfl,i1,g1⟩
      ·show (if x=k then (x,v) else (x,u))::_=(x,u)::kk.zip us'
       rw[if_neg z,<-g3];rfl
def xv7{k:List Key}{d:D}{v:V}(hd:Is K A H d v){kk:List (List Key)}{vs:List D}{us:List V}(hl:kk.length=us.length)(h:IsL K A H vs us) :
 ∃(kk':List (List Key)) (us':List V),(wy8 k d (kk.map wv9) vs).1=kk'.map wv9/\IsL K A H (wy8 k d (kk.map wv9) vs).2 us'/\kk'.length=us'.length/\wy4 (kk.zip us) k v=kk'.zip us':=by
 have hv:=yk4 k hl h;unfold wy8 wy4;rw[zy9];rcases hv with⟨z1,z2⟩ | ⟨d',v',z1,z2,_⟩
 ·rw[z1,z2]
  refine⟨kk++[k],us++[v],?_,?_,?_,?_⟩
  ·simp
  ·simpa using h.append (IsL.one hd)
  ·simp[hl]
  ·simp[List.zip_append hl]
 ·rw[z1,z2]
  obtain⟨us',g1,g2,g3⟩:=xp5 (k:=k) hd hl h;exact⟨kk,us',rfl,g1,g2,g3⟩
end
theorem xh3(hd:d.imm=true):∀{ks vs:List D},D.immL vs=true->D.immL (List.zipWith (λx u=>if ze1 x=some k then d else u) ks vs)=true
 | [],vs,_=>by simp[D.immL]
 | x::ks,[],_=>by simp[D.immL]
 | x::ks,v::vs,h=>by
   have h':v.imm=true/\D.immL vs=true:=by simpa [D.immL] using h
   show (D.imm (if ze1 x=some k then d else v)&&D.immL _)=true;rw[xh3 hd h'.2];by_cases z:ze1 x=some k
   ·rw[if_pos z,hd];rfl
   ·rw[if_neg z,h'.1];rfl
def yj7(hd:d.imm=true)(h:D.immL vs=true):D.immL (wy8 k d ks vs).2=true:=by
 unfold wy8;split
 ·exact xh3 hd h
 ·exact zg9 h (by simp[D.immL,hd])
section
variable{X:Cx}{S:Type}{W:Wd S}{c:Dx W}{g ga gb:Gr}{a b:Expr}{fk fv:Fn S}{i:Nat}
def va7(ρ:Rho)(i:Nat):Option (List D×List D):=match ρ[i]? with
 | some (.own (.dct (.non::ks) vs))=>if D.immL vs=true then some (ks,vs) else none
 | _=>none
def xn0(h:va7 ρ i=some (ks,vs)):ρ[i]?=some (.own (.dct (.non::ks) vs))/\D.immL vs=true:=by
 unfold va7 at h;split at h
 ·split at h
  ·cases h;exact⟨by assumption,by assumption⟩
  ·cases h
 ·cases h
def wd7(S:Type)(i:Nat)(fk fv:Fn S):FnS S:=λρ st=>(fv ρ st).bind λv st1=>match va7 ρ i with
 | some (ks,vs)=>(fk ρ st1).bind λk st2=>match ze1 k with
   | some kk=>if v.imm=true/\ks.length<sizeLine then .ok (.nx (ρ.set i (.own (.dct (.non::(wy8 kk v ks vs).1) (wy8 kk v ks vs).2)))) st2 else .bad
   | none=>.bad
 | none=>.bad
def xc1{x:Str}{k value:Expr}{p1 p2 pos:Pos}(hu:X.A.units+1<cLine)(hx:PE X (.Name x p1) (vb2 i))(hk:DE X c ga k fk)(hv:DE X c gb value fv)(hs:swapsWith value (some (.Subscript (.Name x p1) k p2)) pos.line X.env=pure false:=by rfl) :
 DS X c (.Assign [.Subscript (.Name x p1) k p2] value pos) (wd7 S i fk fv):=
 (xq0 hu hx hk hv hs).imp λD σ H q=>by
  refine zh5 (yb5 (g:=gb) (k:=λv ρ st1=>match va7 ρ i with
   | some (ks,vs)=>(fk ρ st1).bind λk st2=>match ze1 k with
     | some kk=>if v.imm=true/\ks.length<sizeLine then .ok (.nx (ρ.set i (.own (.dct (.non::(wy8 kk v ks vs).1) (wy8 kk v ks vs).2)))) st2 else .bad
     | none=>.bad
   | none=>.bad) q) λv H1 hh=>?_
  obtain⟨ρ,d,st0,st1,R,ok,R1,ok1,e1,z,w⟩:=hh;cases hd:va7 ρ i with
  | none=>simp only[hd] at w;exact(show False from w).elim
  | some kv=>
    obtain⟨ks,vs⟩:=kv;simp only[hd] at w;obtain⟨ho,im⟩:=xn0 hd;obtain⟨ad,ea,nn,f0,us0,_⟩:=R1.slot i _ ho;refine⟨.ref ad,zl2 ea,ρ,st1,R1,ok1,za8 (za4.mp w) (λdk st2 q2 vk H2 e2 ok2 zk=>?_) λx st2 q2 H2 e2 ok2=>q2 H2 ((e1.trans e2).f0 R) ok2⟩;cases hkk:ze1 dk with
    | none=>simp only[hkk] at q2;exact(show False from q2).elim
    | some kk=>
      simp only[hkk] at q2;by_cases hc:d.imm=true/\ks.length<sizeLine
      ·rw[if_pos hc] at q2
       have R2:=R1.ext ok1 e2;obtain⟨ad',ea',nn',f0',us,iu,hq⟩:=R2.slot i _ ho;have:ad'=ad:=by
        have:=(zl2 ea').symm.trans (zl2 ea);cases this;rfl
       subst this;obtain⟨bk,ebk,hbk,_⟩:=yj2 hkk (show Is c.K (λb=>¬W.mv b) H2 dk vk from zk.toR);have zv:Is c.K (Av c σ ρ) H2 d v:=Is.ofImm hc.1 (z.toR.ext e2 ok1);rcases hq with⟨k1,x1,_,_⟩ | ⟨k2,x2,el,eH⟩
       ·cases k1 with
        | nil=>cases x1
        | cons y r=>
          have:L2.D.non=vg0 y:=(List.cons.inj x1).1;cases y<;>cases this
       ·have e3:ks=k2.map wv9:=(List.cons.inj x2).2
        subst e3;obtain⟨kk',us',g1,g2,g3,g4⟩:=xv7 (k:=kk) zv el iu;have hz:(k2.zip us).length<sizeLine:=by
         rw[List.length_zip,<-el,Nat.min_self];have:=hc.2;rw[Aa0] at this;exact this
        have dp:=vj5.t (v:=v) eH hbk hz;rw[g4] at dp;subst ebk;refine⟨ad',_,rfl,dp,?_⟩;obtain⟨R3,F3⟩:=R2.wr (d':=.dct (.non::(wy8 kk d (k2.map wv9) vs).1) (wy8 kk d (k2.map wv9) vs).2) (o:=.dT (kk'.zip us')) ho (zl2 ea') ⟨(λu z=>by cases z),(λob u z=>by cases z)⟩
         λkt=>⟨us',g2.mono kt,.inr ⟨kk',by rw[g1],g3,zb3⟩⟩
        exact q2 σ _ ((e1.trans e2).frm.trans F3) (yv2 ok2 nn.1) R3
      ·rw[if_neg hc] at q2;exact(show False from q2).elim
end
section
variable{X:Cx}{S:Type}{W:Wd S}{c:Dx W}{g ga gb:Gr}
def xe6(K:PySem.W.Frag):R2:=λx y H Q=>∃a b ys,x=.ref a/\y=.ref b/\SqT K H a []/\SqT K H b ys/\Q (.ref b) H
def wa2:OpR X (binaryOp .Add) (xe6 X.K):=by
 intro A3 s σ H x y v u Q I rx ry h;obtain⟨a,b,ys,rfl,rfl,ha,hb,q⟩:=h;cases rx;cases ry;obtain⟨its,r1,p1,_⟩:=I.tuple ha;obtain⟨its2,r2,p2,_⟩:=I.tuple hb;cases r1;obtain⟨⟨cls,dd,data,sl⟩,ho,hc,n,hd⟩:=id p1;obtain⟨⟨cls2,dd2,data2,sl2⟩,ho2,hc2,n2,hd2⟩:=id p2;simp only at hc hd hc2 hd2;subst hc hd hc2 hd2;exact concat_meets ⟨_,ho,rfl⟩ ⟨_,ho2,rfl⟩ noFill_tuple_add seq_tuple_add PySem.F.slot_tuple_add PySem.F.entry_tuple_add (PySem.F.args_tuple_add_2 _ _) (tuple_addW0 a b _ its2.toArray n n2 dd dd2 sl sl2 rfl) ⟨ho,ho2,⟨.ref b,H,I,rfl,q⟩⟩
def xs4:D->D->Option D
 | .tup [],.tup m=>if D.immL m=true then some (.tup m) else none
 | _,_=>none
open H in
def wa5{K:PySem.W.Frag}:OpD c (xe6 K) xs4:=by
 intro d1 d2 v1 v2 H st d Q ok z1 z2 e q;unfold xs4 at e;split at e
 ·rename_i m
  split at e
  ·rename_i im
   cases e;obtain⟨a,vs,ea,s1,i1⟩:=Is.tup_iff.mp z1;obtain⟨b,us,eb,s2,i2⟩:=Is.tup_iff.mp z2;rw[IsL.nil.mp i1] at s1;refine⟨a,b,us,ea,eb,.of s1,.of s2,?_⟩;rw[<-eb];exact q _ H Ext.refl ok (Is.ofImm (by show D.immL m=true;exact im) z2)
  ·cases e
 ·cases e
def vn8(S:Type)(i:Nat)(fk fv:Fn S):FnS S:=λρ st=>(fv ρ st).bind λv st1=>match ww2 ρ i with
 | some l=>(fk ρ st1).bind λk st2=>match k with
   | .int j=>match ixN l.length j with
     | some n=>if v.imm=true then .ok (.nx (ρ.set i (.own (.lst (l.set n v))))) st2 else .bad
     | none=>.bad
   | _=>.bad
 | none=>.bad
def yc8{x:Str}{i:Nat}(hx:PE X (.Name x p1) (vb2 i))(hk:DE X c ga k fk)(hv:DE X c gb value fv)(h:∀{tk tv:TE},PE X k tk->PE X value tv->PS X (.Assign [.Subscript (.Name x p1) k p2] value pos) (vm7 tv (ua8 (vb2 i) tk vo2))):DS X c (.Assign [.Subscript (.Name x p1) k p2] value pos) (vn8 S i fk fv):=
 (h hk hv).imp λD σ H q=>by
  refine zh5 (yb5 (g:=gb) (k:=λv ρ st1=>match ww2 ρ i with
   | some l=>(fk ρ st1).bind λk st2=>match k with
     | .int j=>match ixN l.length j with
       | some n=>if v.imm=true then .ok (.nx (ρ.set i (.own (.lst (l.set n v))))) st2 else .bad
       | none=>.bad
     | _=>.bad
   | none=>.bad) q) λv H1 hh=>?_
  obtain⟨ρ,d,st0,st1,R,ok,R1,ok1,e1,z,w⟩:=hh;cases hd:ww2 ρ i with
  | none=>simp only[hd] at w;exact(show False from w).elim
  | some l=>
    simp only[hd] at w;obtain⟨ad,vs,ea,eH,zz,nm⟩:=R1.lstAt hd;refine⟨.ref ad,ea,ρ,st1,R1,ok1,za8 (za4.mp w) (λdk st2 q2 vk H2 e2 ok2 zk=>?_) λx st2 q2 H2 e2 ok2=>q2 H2 ((e1.trans e2).f0 R) ok2⟩;cases dk with
    | int j=>
      have zj:vk=.int j:=Is.int_iff.mp (show Is c.K (λb=>¬W.mv b) H2 (.int j) vk from zk.toR);cases hn:ixN l.length j with
      | none=>simp only[hn] at q2;exact(show False from q2).elim
      | some n=>
        simp only[hn] at q2;by_cases hc:d.imm=true
        ·rw[if_pos hc] at q2
         have R2:=R1.ext ok1 e2;have eH2:=e2 ad _ eH nm;have z2:IsL c.K (Av c σ ρ) H2 l vs:=zz.mono (e2.keepT ok1 λb a=>⟨a.1,a⟩);have zv:Is c.K (Av c σ ρ) H2 d v:=Is.ofImm hc (z.toR.ext e2 ok1);refine⟨ad,vs,j,n,rfl,zj,eH2,by rw[<-z2.length];exact hn,?_⟩;obtain⟨R3,F3⟩:=R2.wr (d':=.lst (l.set n d)) (o:=.lst (vs.set n v)) (zw9 hd) ea ⟨(λu z=>by cases z),(λob u z=>by cases z)⟩ λkt=>⟨_,zb3,(z2.set n zv).mono kt⟩
         exact q2 σ _ ((e1.trans e2).frm.trans F3) (yv2 ok2 nm) R3
        ·rw[if_neg hc] at q2;exact(show False from q2).elim
    | _=>exact(show False from q2).elim
end
end L2
namespace PySem
structure Wlk(prog:Program)(w:World)(it l:Addr)(xs:List Value)(P:Nat->Heap->Prop):Prop where
 keep:∀k h h',P k h->(∀b o,b=it\/b=l->h.get? b=some o->h'.get? b=some o)->P k h'
 item:∀(A:Around) (E:Value->Shared->Prop) (s:Shared) (k:Nat) (x:Value) (Q:Value->Shared->Prop),P k s.heap->xs[k]?=some x->
  (∀h',P (k+1) h'->Heap.SameBut it s.heap h'->Q x { s with heap:=h' })->wpAny (model prog w) A (Builtin.SmallTypes.nextOf (.ref it)) Q E s
 stop:∀(A:Around) (E:Value->Shared->Prop) (s:Shared) (k:Nat) (Q:Value->Shared->Prop),A.handled=none->P k s.heap->xs[k]?=none->
  (∀h' e,Heap.ExtBut it s.heap h'->(∃o,h'.get? e=some o/\o.cls=.type "StopIteration")->E (.ref e) { s with heap:=h' })->wpAny (model prog w) A (Builtin.SmallTypes.nextOf (.ref it)) Q E s
section
variable{prog:Program}{w:World}{it l:Addr}{xs:List Value}
def Wlk.tup(hne:it≠l):Wlk prog w it l xs (λk h=>h.IsTupleIter it l k/\h.IsTuple l xs.toArray) where
 keep:=λk h h' ⟨a,b⟩ q=>⟨a.at λo e=>q it o (.inl rfl) e,by
  obtain⟨o,ho,r⟩:=b;exact⟨o,q l o (.inr rfl) ho,r⟩⟩
 item:=λA E s k x Q ⟨a,b⟩ hx hQ=>zq6 a b (by simpa using hx) λh' a' sb=>hQ h' ⟨a',by
  obtain⟨o,ho,r⟩:=b;exact⟨o,sb.extBut l o hne.symm ho,r⟩⟩ sb
 stop:=λA E s k Q hh ⟨a,b⟩ hx hE=>zt3 hh a b (by simpa using hx) hE
def Wlk.lst(hne:it≠l):Wlk prog w it l xs (λk h=>h.IsListIter it l k/\h.IsList l xs.toArray) where
 keep:=λk h h' ⟨a,b⟩ q=>⟨a.at λo e=>q it o (.inl rfl) e,b.at λo e=>q l o (.inr rfl) e⟩
 item:=λA E s k x Q ⟨a,b⟩ hx hQ=>wpAny_nextOf_list_item a b (by simpa using hx) λh' a' sb=>hQ h' ⟨a',b.extBut sb.extBut hne.symm⟩ sb
 stop:=λA E s k Q hh ⟨a,b⟩ hx hE=>wpAny_nextOf_list_end hh a b (by simpa using hx) hE
end
section
variable{prog:Program}{w:World}{A:Around}{E:Value->Shared->Prop}{s:Shared}{z TI TO i1 i2 l1 l2:Addr}{xs ys:List Value}{P1 P2:Nat->Heap->Prop}{k:Nat}{x y a b:Value}
structure ZAp(z TI TO i1 i2 l1 l2:Addr):Prop where
 zTI:z≠TI
 zTO:z≠TO
 z1:z≠i1
 z2:z≠i2
 io:TI≠TO
 I1:TI≠i1
 I2:TI≠i2
 O1:TO≠i1
 O2:TO≠i2
 ii:i1≠i2
 lz1:l1≠z
 lo1:l1≠TO
 li1:l1≠i2
 lz2:l2≠z
 lo2:l2≠TO
 li2:l2≠i1
def Wlk.ext(W:Wlk prog w it l xs P){k:Nat}(p:P k h)(e:Heap.ExtBut c h h')(n1:it≠c)(n2:l≠c):P k h':=
 W.keep k h h' p λb o hb q=>by
  rcases hb with r | r
  ·subst r;exact e _ o n1 q
  ·subst r;exact e _ o n2 q
def xw9{Q:Value->Shared->Prop}(W1:Wlk prog w i1 l1 xs P1)(W2:Wlk prog w i2 l2 ys P2)(D:ZAp z TI TO i1 i2 l1 l2)(hz:IsZip s.heap z TI TO .none)(hTI:IsPair s.heap TI (.ref i1) (.ref i2))(hTO:IsPair s.heap TO a b)(p1:P1 k s.heap)(p2:P2 k s.heap)(hx:xs[k]?=some x)(hy:ys[k]?=some y)(hQ:∀h',IsZip h' z TI TO (rawInt s.heap.objs.size)->IsPair h' TO x y->P1 (k+1) h'->P2 (k+1) h'->IsPair h' s.heap.objs.size x y->h'.objs.size=s.heap.objs.size+1->
  (∀c o,c∉[z,TO,i1,i2]->s.heap.get? c=some o->h'.get? c=some o)->Q (.ref s.heap.objs.size) { s with heap:=h' }) :
 wpAny (model prog w) A (Builtin.«zip.__next__» ⟨[.ref z],[]⟩) (λfin s'=>∃v,fin=.done (.ret v)/\Q v s') E s:=by
 show wpAny (model prog w) A (field (.ref z) 2 >>= λ_=>_) _ _ s;refine Aa1 (Ac1 hz rfl (x:=.bool false) rfl ?_);show wpAny (model prog w) A (field (.ref z) 3 >>= λ_=>_) _ _ s;refine Aa1 (Ac1 hz rfl (x:=.ref TI) rfl (Aa1 (Ah1 hTI rfl ?_)));show wpAny (model prog w) A (Builtin.SmallTypes.ownedTupleIsFree (.ref z) >>= λ_=>_) _ _ s;refine Aa1 ?_;unfold Builtin.SmallTypes.ownedTupleIsFree;refine Aa1 (Ac1 hz rfl (x:=.none) rfl (Ab1 ?_));rw[if_pos rfl];refine Aa1 (wpAny_rule (Aa1 (Ac1 hz rfl (x:=.ref TO) rfl (Aa1 (Ad1 hz (by simp) λg1 z1 c1=>?_)))));have z1:IsZip g1 z TI TO .ellipsis:=z1;have c1:Heap.SameBut z s.heap g1:=c1;refine Aa1 ?_;simp only[List.zipIdx_cons,List.zipIdx_nil,List.forIn_cons,List.forIn_nil];refine Aa1 (Aa1 (wpAny_onRaise ?_));show wpAny (model prog w) _ (Builtin.SmallTypes.nextOf (.ref i1) >>= λ_=>_) _ _ _;refine Aa1 (W1.item _ _ _ k x _ (W1.ext p1 c1.extBut D.z1.symm D.lz1) hx λg2 q1 c2=>Ab1 ?_);have c2:Heap.SameBut i1 g1 g2:=c2;have t2:IsPair g2 TO a b:=c2.extBut _ _ D.O1 (c1.extBut _ _ D.zTO.symm hTO);refine Aa1 (Ah1 t2 rfl (Aa1 (wpAny_updateSeq_pair t2 λg3 t3 c3=>?_)));have t3:IsPair g3 TO x b:=t3;have c3:Heap.SameBut TO g2 g3:=c3;refine Aa1 (wpAny_letGo (Ab1 (Aa1 (Aa1 (wpAny_onRaise ?_)))));show wpAny (model prog w) _ (Builtin.SmallTypes.nextOf (.ref i2) >>= λ_=>_) _ _ _;have p2':P2 k g3:=W2.ext (W2.ext (W2.ext p2 c1.extBut D.z2.symm D.lz2) c2.extBut D.ii.symm D.li2) c3.extBut D.O2.symm D.lo2;refine Aa1 (W2.item _ _ _ k y _ p2' hy λg4 q2 c4=>Ab1 ?_);have c4:Heap.SameBut i2 g3 g4:=c4;have t4:IsPair g4 TO x b:=c4.extBut _ _ D.O2 t3;refine Aa1 (Ah1 t4 rfl (Aa1 (wpAny_updateSeq_pair t4 λg5 t5 c5=>?_)));have t5:IsPair g5 TO x y:=t5;have c5:Heap.SameBut TO g4 g5:=c5;refine Aa1 (wpAny_letGo (Ab1 (Ab1 (Aa1 (Ah1 t5 rfl (Aa1 (wpAny_newTuple ?_)))))));have sz:g5.objs.size=s.heap.objs.size:=by rw[c5.1,c4.1,c3.1,c2.1,c1.1]
 have k5:∀c o,c∉[z,TO,i1,i2]->s.heap.get? c=some o->g5.get? c=some o:=λc o n e=>by
  simp only[Aj0,Bi0,or_false,not_or] at n;exact c5.extBut _ _ n.2.1 (c4.extBut _ _ n.2.2.2 (c3.extBut _ _ n.2.1 (c2.extBut _ _ n.2.2.1 (c1.extBut _ _ n.1 e))))
 have z5:IsZip g5 z TI TO .ellipsis:=c5.extBut _ _ D.zTO (c4.extBut _ _ D.z2 (c3.extBut _ _ D.zTO (c2.extBut _ _ D.z1 z1)));have r1:P1 (k+1) g5:=W1.ext (W1.ext (W1.ext q1 c3.extBut D.O1.symm D.lo1) c4.extBut D.ii D.li1) c5.extBut D.O1.symm D.lo1;have r2:P2 (k+1) g5:=W2.ext q2 c5.extBut D.O2.symm D.lo2;show wpAny (model prog w) A (Builtin.SmallTypes.ownedTupleHandOut (.ref z) (.ref g5.objs.size) >>= λ_=>_) _ _ _;refine Aa1 ?_;unfold Builtin.SmallTypes.ownedTupleHandOut;have z6:IsZip (g5.push { cls:=.type "tuple",data:=.seq #[x,y] }) z TI TO .ellipsis:=Ab0 _ z5;have lt:z<g5.objs.size:=Heap.lt_size z5;have n5:(g5.push { cls:=.type "tuple",data:=.seq #[x,y] }).get? g5.objs.size=some { cls:=.type "tuple",data:=.seq #[x,y] }:=Ak0 _ rfl;refine Aa1 (Ad1 z6 (by simp) λg7 z7 c7=>?_);have z7:IsZip g7 z TI TO (rawInt g5.objs.size):=z7;have c7:Heap.SameBut z (g5.push { cls:=.type "tuple",data:=.seq #[x,y] }) g7:=c7;refine Ad1 z7 (by simp) λg8 z8 c8=>Ab1 ⟨_,rfl,?_⟩
 have z8:IsZip g8 z TI TO (rawInt g5.objs.size):=z8;have c8:Heap.SameBut z g7 g8:=c8;have up:∀c o,c≠z->g5.get? c=some o->g8.get? c=some o:=λc o n e=>c8.extBut _ _ n (c7.extBut _ _ n (Ab0 _ e))
 have ex:Heap.ExtBut z g5 g8:=λc o n e=>up c o n e
 have t8:IsPair g8 g5.objs.size x y:=c8.extBut _ _ (By0 lt) (c7.extBut _ _ (By0 lt) n5);have s8:g8.objs.size=g5.objs.size+1:=by rw[c8.1,c7.1,Bq0]
 show Q (.ref g5.objs.size) _;rw[sz] at z8 t8 s8 ⊢;exact hQ g8 z8 (up _ _ D.zTO.symm t5) (W1.ext r1 ex D.z1.symm D.lz1) (W2.ext r2 ex D.z2.symm D.lz2) t8 s8 λc o n e=>up c o (λh=>n (by simp[h])) (k5 c o n e)
theorem xx0(hh:A.handled=none)(W1:Wlk prog w i1 l1 xs P1)(W2:Wlk prog w i2 l2 ys P2)(D:ZAp z TI TO i1 i2 l1 l2)(hz:IsZip s.heap z TI TO .none)(hTI:IsPair s.heap TI (.ref i1) (.ref i2))(hTO:IsPair s.heap TO a b)(p1:P1 k s.heap)(p2:P2 k s.heap)(hend:xs[k]?=none\/ys[k]?=none)(hE:∀h' e,(∀c o,c∉[z,TO,i1,i2]->s.heap.get? c=some o->h'.get? c=some o)->(∃o,h'.get? e=some o/\o.cls=.type "StopIteration")->E (.ref e) { s with heap:=h' }) :
 wpAny (model prog w) A (Builtin.«zip.__next__» ⟨[.ref z],[]⟩) Q E s:=by
 have nz:∀{h:Heap} {e:Addr} {f0:Value} {o:Obj},IsZip h z TI TO f0->h.get? e=some o->o.cls=.type "StopIteration"->e≠z:=λ{h e f0 o} q1 q2 q3 q4=>by
  subst q4;rw[q1] at q2;cases q2;simp at q3
 show wpAny (model prog w) A (field (.ref z) 2 >>= λ_=>_) _ _ s;refine Aa1 (Ac1 hz rfl (x:=.bool false) rfl ?_);show wpAny (model prog w) A (field (.ref z) 3 >>= λ_=>_) _ _ s;refine Aa1 (Ac1 hz rfl (x:=.ref TI) rfl (Aa1 (Ah1 hTI rfl ?_)));show wpAny (model prog w) A (Builtin.SmallTypes.ownedTupleIsFree (.ref z) >>= λ_=>_) _ _ s;refine Aa1 ?_;unfold Builtin.SmallTypes.ownedTupleIsFree;refine Aa1 (Ac1 hz rfl (x:=.none) rfl (Ab1 ?_));rw[if_pos rfl];refine Aa1 (wpAny_rule (Aa1 (Ac1 hz rfl (x:=.ref TO) rfl (Aa1 (Ad1 hz (by simp) λg1 z1 c1=>?_)))));have z1:IsZip g1 z TI TO .ellipsis:=z1;have c1:Heap.SameBut z s.heap g1:=c1;refine Aa1 ?_;simp only[List.zipIdx_cons,List.zipIdx_nil,List.forIn_cons,List.forIn_nil];refine Aa1 (Aa1 (wpAny_onRaise ?_));show wpAny (model prog w) _ (Builtin.SmallTypes.nextOf (.ref i1) >>= λ_=>_) _ _ _;have p1':P1 k g1:=W1.ext p1 c1.extBut D.z1.symm D.lz1;cases hx:xs[k]? with
 | none=>
   refine Aa1 (W1.stop _ _ _ k _ hh p1' hx λg2 e c2 he=>?_);obtain⟨oe,ho,hc⟩:=he;have z2:IsZip g2 z TI TO .ellipsis:=c2 _ _ D.z1 z1;refine Ad1 z2 (by simp) λg3 _ c3=>hE g3 e (λc o n q=>?_) ⟨oe,c3.extBut _ _ (nz z2 ho hc) ho,hc⟩
   simp only[Aj0,Bi0,or_false,not_or] at n;exact c3.extBut _ _ n.1 (c2 _ _ n.2.2.1 (c1.extBut _ _ n.1 q))
 | some x=>
   have hy:ys[k]?=none:=by
    rcases hend with h | h
    ·rw[hx] at h;cases h
    ·exact h
   refine Aa1 (W1.item _ _ _ k x _ p1' hx λg2 q1 c2=>Ab1 ?_);have c2:Heap.SameBut i1 g1 g2:=c2;have t2:IsPair g2 TO a b:=c2.extBut _ _ D.O1 (c1.extBut _ _ D.zTO.symm hTO);refine Aa1 (Ah1 t2 rfl (Aa1 (wpAny_updateSeq_pair t2 λg3 t3 c3=>?_)));have c3:Heap.SameBut TO g2 g3:=c3;refine Aa1 (wpAny_letGo (Ab1 (Aa1 (Aa1 (wpAny_onRaise ?_)))));show wpAny (model prog w) _ (Builtin.SmallTypes.nextOf (.ref i2) >>= λ_=>_) _ _ _;have p2':P2 k g3:=W2.ext (W2.ext (W2.ext p2 c1.extBut D.z2.symm D.lz2) c2.extBut D.ii.symm D.li2) c3.extBut D.O2.symm D.lo2;refine Aa1 (W2.stop _ _ _ k _ hh p2' hy λg4 e c4 he=>?_);obtain⟨oe,ho,hc⟩:=he;have z4:IsZip g4 z TI TO .ellipsis:=c4 _ _ D.z2 (c3.extBut _ _ D.zTO (c2.extBut _ _ D.z1 z1));refine Ad1 z4 (by simp) λg5 _ c5=>hE g5 e (λc o n q=>?_) ⟨oe,c5.extBut _ _ (nz z4 ho hc) ho,hc⟩
   simp only[Aj0,Bi0,or_false,not_or] at n;exact c5.extBut _ _ n.1 (c4 _ _ n.2.2.2 (c3.extBut _ _ n.2.1 (c2.extBut _ _ n.2.2.1 (c1.extBut _ _ n.1 q))))
end
def zO(nm:String)(l:Addr):Obj:={ cls:=.type nm,data:=.fields #[.ref l,.int 0 0] }
def zA(nm:String)(h:Heap)(l1 l2:Addr):Heap:=(h.push (zO nm l1)).push (zO nm l2)
def zB(nm:String)(h:Heap)(l1 l2:Addr):Heap:=((zA nm h l1 l2).push { cls:=.type "tuple",data:=.seq #[.ref h.objs.size,.ref (h.push (zO nm l1)).objs.size] }).push { cls:=.type "tuple",data:=.seq #[.none,.none] }
def zC(nm:String)(h:Heap)(l1 l2:Addr):Heap:=(zB nm h l1 l2).push { cls:=.type "zip",data:=.fields #[.none,.bool false,.bool false,.ref (zA nm h l1 l2).objs.size,.ref ((zA nm h l1 l2).push { cls:=.type "tuple",data:=.seq #[.ref h.objs.size,.ref (h.push (zO nm l1)).objs.size] }).objs.size] }
def xl8(l1 l2:Addr)(xs ys:Array Value) :
 Meets (Builtin.«zip.__new__» ⟨[.type "zip",.ref l1,.ref l2],[]⟩) (λ_ R s=>s.heap.IsTuple l1 xs/\s.heap.IsTuple l2 ys/\
  R (.ok (.ret (.ref (zB "tuple_iterator" s.heap l1 l2).objs.size))) { s with heap:=zC "tuple_iterator" s.heap l1 l2 }):=
 .of_wp λprog w A R s h=>by
  obtain⟨hp,g,d,tk,os⟩:=s;obtain⟨hl1,hl2,h⟩:=h;have hsub:=sub_zip;have hL1:Heap.IsTuple (Shared.heap ⟨hp,g,d,tk,os⟩) l1 xs:=hl1;have hL2:Heap.IsTuple (Shared.heap ⟨hp.push { cls:=.type "tuple_iterator",data:=.fields #[.ref l1,.int 0 0] },g,d,tk,os⟩) l2 ys:=by
   obtain⟨o,ho,r⟩:=hl2;exact⟨o,Ab0 _ ho,r⟩
  wp_walk using wpAny_pyIter_tuple hL1,wpAny_pyIter_tuple hL2
  exact⟨_,rfl,h⟩
def xc7(nm:String)(h:Heap)(l1 l2:Addr):(h.push (zO nm l1)).objs.size=h.objs.size+1/\(zA nm h l1 l2).objs.size=h.objs.size+2/\(zB nm h l1 l2).objs.size=h.objs.size+4:=by
 refine⟨Bq0 ..,?_,?_⟩
 ·unfold zA;rw[Bq0,Bq0]
 ·unfold zB zA;rw[Bq0,Bq0,Bq0,Bq0]
def xc9(nm:String)(h:Heap)(l1 l2:Addr):IsZip (zC nm h l1 l2) (h.objs.size+4) (h.objs.size+2) (h.objs.size+3) .none/\IsPair (zC nm h l1 l2) (h.objs.size+2) (.ref h.objs.size) (.ref (h.objs.size+1))/\
 IsPair (zC nm h l1 l2) (h.objs.size+3) .none .none/\(zC nm h l1 l2).get? h.objs.size=some (zO nm l1)/\(zC nm h l1 l2).get? (h.objs.size+1)=some (zO nm l2)/\∀c o,h.get? c=some o->(zC nm h l1 l2).get? c=some o:=by
 obtain⟨s1,s2,s4⟩:=xc7 nm h l1 l2;have s3:((zA nm h l1 l2).push { cls:=.type "tuple",data:=.seq #[.ref h.objs.size,.ref (h.push (zO nm l1)).objs.size] }).objs.size=h.objs.size+3:=by rw[Bq0,s2]
 have u:∀{c:Addr} {o:Obj},(zB nm h l1 l2).get? c=some o->(zC nm h l1 l2).get? c=some o:=λ{c o} q=>Ab0 _ q
 have v:∀{c:Addr} {o:Obj},(zA nm h l1 l2).get? c=some o->(zC nm h l1 l2).get? c=some o:=λ{c o} q=>u (Ab0 _ (Ab0 _ q))
 refine⟨?_,?_,?_,v (Ab0 _ (Ak0 _ rfl)),?_,λc o q=>v (Ab0 _ (Ab0 _ q))⟩
 ·have q:(zC nm h l1 l2).get? (zB nm h l1 l2).objs.size=some _:=Ak0 _ rfl
  rw[s4,s3,s2] at q;exact q
 ·have q:(zC nm h l1 l2).get? (zA nm h l1 l2).objs.size=some _:=u (Ab0 _ (Ak0 _ rfl))
  rw[s2,s1] at q;exact q
 ·have q:(zC nm h l1 l2).get? ((zA nm h l1 l2).push { cls:=.type "tuple",data:=.seq #[.ref h.objs.size,.ref (h.push (zO nm l1)).objs.size] }).objs.size=some _:=u (Ak0 _ rfl)
  rw[s3] at q;exact q
 ·have q:(zA nm h l1 l2).get? (h.push (zO nm l1)).objs.size=some (zO nm l2):=Ak0 _ rfl
  rw[s1] at q;exact v q
section
variable{prog:Program}{w:World}{A:Around}{E:Value->Shared->Prop}{s:Shared}
def xw2(hl1:s.heap.IsTuple l1 xs)(hl2:s.heap.IsTuple l2 ys)(h:Q (.ref (s.heap.objs.size+4)) { s with heap:=zC "tuple_iterator" s.heap l1 l2 }):wpAny (model prog w) A (call (.type "zip") [.ref l1,.ref l2]) Q E s:=by
 refine callType_new F.called_zip (by decide) (F.typeCall_zip_2 _ _) (F.newCall_zip_2 _ _) (λobj=>F.args_object_init_3 obj _ _) F.entry_zip_new (xl8 l1 l2 xs ys) ⟨hl1,hl2,?_⟩;obtain⟨q,_⟩:=xc9 "tuple_iterator" s.heap l1 l2;show _/\_;rw[(xc7 "tuple_iterator" s.heap l1 l2).2.2];exact⟨⟨_,q,rfl⟩,h⟩
def xw3(hl1:s.heap.IsList l1 xs)(hl2:s.heap.IsList l2 ys)(h:Q (.ref (s.heap.objs.size+4)) { s with heap:=zC "list_iterator" s.heap l1 l2 }):wpAny (model prog w) A (call (.type "zip") [.ref l1,.ref l2]) Q E s:=by
 refine callType_new F.called_zip (by decide) (F.typeCall_zip_2 _ _) (F.newCall_zip_2 _ _) (λobj=>F.args_object_init_3 obj _ _) F.entry_zip_new (meets_zip_new l1 l2 xs ys) ⟨hl1,hl2,?_⟩;obtain⟨q,_⟩:=xc9 "list_iterator" s.heap l1 l2;show _/\_;refine⟨⟨{ cls:=.type "zip",data:=.fields #[.none,.bool false,.bool false,.ref (s.heap.objs.size+2),.ref (s.heap.objs.size+3)] },?_,rfl⟩,?_⟩
 ·rw[show (zipH4 s.heap l1 l2).objs.size=s.heap.objs.size+4 from (xc7 "list_iterator" s.heap l1 l2).2.2];exact q
 ·rw[show (zipH4 s.heap l1 l2).objs.size=s.heap.objs.size+4 from (xc7 "list_iterator" s.heap l1 l2).2.2];exact h
end
end PySem
namespace L2
def Izp(Sq:Hp->List V->List V->Prop):It:=
 ⟨λi H=>∃xs ys x y,Sq H xs ys/\xs[i]?=some x/\ys[i]?=some y,λi H v H'=>∃p x y,H p=none/\v=.ref p/\H'=upd H p (.tup [x,y])/\∀xs ys,Sq H xs ys->xs[i]?=some x/\ys[i]?=some y,λi H=>∃xs ys,Sq H xs ys/\(xs.length<=i\/ys.length<=i)⟩
structure ZW(P:Program)(w:World)(K:PySem.W.Frag)(l1 l2 i1 i2:Addr)(Sq:Hp->List V->List V->Prop)(T1 T2:Nat->Heap->Prop):Prop where
 obj:∀k h,(T1 k h->∃o,h.get? i1=some o/\∀v,o.data≠.cell v)/\(T2 k h->∃o,h.get? i2=some o/\∀v,o.data≠.cell v)
 keep:∀k h h',(T1 k h->(∀o,h.get? i1=some o->h'.get? i1=some o)->T1 k h')/\(T2 k h->(∀o,h.get? i2=some o->h'.get? i2=some o)->T2 k h')
 there:∀H xs ys,Sq H xs ys->H l1≠none/\H l2≠none
 vals:∀(X:Cx),X.K=K->∀A3 σ H s xs ys,Inv X A3 σ H s->Sq H xs ys->i1≠l1->i2≠l2->∃us vs,wv6 xs us/\wv6 ys vs/\(∀xs' ys',Sq H xs' ys'->xs'=xs/\ys'=ys)/\∃P1 P2:Nat->Heap->Prop,Wlk P w i1 l1 us P1/\Wlk P w i2 l2 vs P2/\
  (∀k,T1 k s.heap->P1 k s.heap)/\(∀k,T2 k s.heap->P2 k s.heap)/\∀k h,(P1 k h->T1 k h)/\(P2 k h->T2 k h)
def nd5(h:[a,b,c,d,e].Nodup):(a≠b/\a≠c/\a≠d/\a≠e)/\(b≠c/\b≠d/\b≠e)/\(c≠d/\c≠e)/\d≠e:=by
 simpa only[Cc0,Aj0,Bi0,or_false,not_or,List.nodup_nil,and_true,not_false_eq_true] using h
def ua5(h:x∈[a,b,c,d,e]):x=a\/x=b\/x=c\/x=d\/x=e:=by
 simpa only[Aj0,Bi0,or_false] using h
def nm5(h:x∉[a,b,c,d,e]):x≠a/\x∉[a,c,d,e]:=by
 simp only[Aj0,Bi0,or_false,not_or] at h ⊢;exact⟨h.1,h.1,h.2.2⟩
def nm4(h1:x≠a)(h2:x≠b)(h3:x≠c)(h4:x≠d):x∉[a,b,c,d]:=by
 simp only[Aj0,Bi0,or_false,not_or];exact⟨h1,h2,h3,h4⟩
def vv8(h:x∈[a,c,d,e]):x∈[a,b,c,d,e]:=by
 simp only[Aj0,Bi0,or_false] at h ⊢;rcases h with r | r | r | r
 ·exact .inl r
 ·exact .inr (.inr (.inl r))
 ·exact .inr (.inr (.inr (.inl r)))
 ·exact .inr (.inr (.inr (.inr r)))
open H in
def xd9{P:Program}{w:World}{K:PySem.W.Frag}{elts:List Expr}{x1}{pos:Pos}{l1 l2 z TI TO i1 i2:Addr}{Sq:Hp->List V->List V->Prop}{T1 T2:Nat->Heap->Prop}(Z:ZW P w K l1 l2 i1 i2 Sq T1 T2)(nd:[z,TI,TO,i1,i2].Nodup):vj7 P w K (.Tuple elts x1 pos) (Izp Sq) [z,TI,TO,i1,i2] z (λi h=>IsZip h z TI TO .none/\IsPair h TI (.ref i1) (.ref i2)/\(∃a b,IsPair h TO a b)/\T1 i h/\T2 i h) where
 mem:=by simp
 obj:=λi h st b hb=>by
  obtain⟨h1,h2,⟨_,_,h3⟩,h4,h5⟩:=st;have nc:∀{d:Data} {v:Option Value},d=Data.cell v->(∃u,d=.fields u)\/(∃u n,d=.seq u n)->False:=λe q=>by
   subst e;rcases q with⟨u,q⟩ | ⟨u,n,q⟩<;>cases q
  have hb:=ua5 hb;rcases hb with r | r | r | r | r
  ·subst r;exact⟨_,h1,λv e=>nc (v:=v) e (.inl ⟨_,rfl⟩)⟩
  ·subst r;exact⟨_,h2,λv e=>nc (v:=v) e (.inr ⟨_,_,rfl⟩)⟩
  ·subst r;exact⟨_,h3,λv e=>nc (v:=v) e (.inr ⟨_,_,rfl⟩)⟩
  ·subst r;exact(Z.obj i h).1 h4
  ·subst r;exact(Z.obj i h).2 h5
 keep:=λi h h' st q=>by
  obtain⟨h1,h2,⟨a,b,h3⟩,h4,h5⟩:=st;exact⟨q _ (by simp) _ h1,q _ (by simp) _ h2,⟨a,b,q _ (by simp) _ h3⟩,(Z.keep i h h').1 h4 λo e=>q _ (by simp) o e,(Z.keep i h h').2 h5 λo e=>q _ (by simp) o e⟩
 item:=by
  intro X hP hw hK hc i A3 s σ H E I hf st hg;subst hP hw;obtain⟨xs,ys,x,y,hq,hx,hy⟩:=hg;obtain⟨h1,h2,⟨a,b,h3⟩,h4,h5⟩:=st;obtain⟨n1,n2⟩:=Z.there H xs ys hq;have no:∀c∈[z,TI,TO,i1,i2],l1≠c/\l2≠c:=λc hb=>⟨λe=>n1 (by rw[e];exact(hf c hb).1),λe=>n2 (by rw[e];exact(hf c hb).1)⟩
  obtain⟨us,vs,ru,rv,inj,P1,P2,W1,W2,p1,p2,pt⟩:=Z.vals X hK A3 σ H s xs ys I hq (no i1 (by simp)).1.symm (no i2 (by simp)).2.symm;obtain⟨u,hu,rx⟩:=ru.get hx;obtain⟨v,hv,ry⟩:=rv.get hy;have nd:=nd5 nd;have D:ZAp z TI TO i1 i2 l1 l2:=⟨nd.1.1,nd.1.2.1,nd.1.2.2.1,nd.1.2.2.2,nd.2.1.1,nd.2.1.2.1,nd.2.1.2.2,nd.2.2.1.1,nd.2.2.1.2,nd.2.2.2,(no z (by simp)).1,(no TO (by simp)).1,(no i2 (by simp)).1,(no z (by simp)).2,(no TO (by simp)).2,(no i1 (by simp)).2⟩;have hT:s.TypeIs (.ref z) "zip":=⟨_,h1,rfl⟩;unfold pyNext;refine Aa1 (wpAny_attempt (wpAny_callSpecial?_slot (name:=Str.ofString "__next__") hT F.slot_zip_next (Ag1 F.slot_zip_next hT F.entry_zip_next (xw9 W1 W2 D h1 h2 h3 (p1 i h4) (p2 i h5) hu hv λh' a1 a2 a3 a4 a5 a6 kk=>Ab1 ?_) (F.args_zip_next_1 _))));refine⟨_,rfl,wpAny_letOwnedTupleGo_zip (s:={ s with heap:=h' }) a1 λg2 zz sb=>?_⟩;have sb:Heap.SameBut z h' g2:=sb;have lt:∀{c:Addr} {o:Obj},s.heap.get? c=some o->c≠s.heap.objs.size:=λe=>Ar0 (Heap.lt_size e)
  have k2:∀b o,b∉[z,TI,TO,i1,i2]->s.heap.get? b=some o->g2.get? b=some o:=λb o hb q=>by
   exact sb.extBut b o (nm5 hb).1 (kk b o (nm5 hb).2 q)
  have kTI:g2.get? TI=_:=sb.extBut TI _ D.zTI.symm (kk TI _ (nm4 D.zTI.symm D.io D.I1 D.I2) h2);have tt:IsTup g2 s.heap.objs.size [u,v].toArray/\NoD g2 s.heap.objs.size:=⟨⟨_,sb.extBut _ _ (lt h1).symm a5,rfl,_,rfl⟩,⟨_,sb.extBut _ _ (lt h1).symm a5,rfl⟩⟩;refine⟨.ref s.heap.objs.size,_,I.turnedT (t':=s.toks) (p:=s.heap.objs.size) (vs:=[x,y]) hf k2 (Al0 _) (.cons rx (.cons ry .nil)) (by show 2<=sizeLine;decide) tt.1 tt.2,rfl,⟨_,x,y,I.hok.fresh (Al0 _),rfl,rfl,λxs' ys' hy'=>by
   obtain⟨e1,e2⟩:=inj xs' ys' hy';rw[e1,e2];exact⟨hx,hy⟩⟩,⟨zz,kTI,⟨_,_,sb.extBut _ _ D.zTO.symm a2⟩,(Z.keep (i+1) h' g2).1 ((pt (i+1) h').1 a3) λo e=>sb.extBut _ o D.z1.symm e,(Z.keep (i+1) h' g2).2 ((pt (i+1) h').2 a4) λo e=>sb.extBut _ o D.z2.symm e⟩,λb hb=>?_⟩
  have nb:b≠s.heap.objs.size:=by
   have hb:=ua5 hb;rcases hb with r | r | r | r | r
   ·subst r;exact lt h1
   ·subst r;exact lt h2
   ·subst r;exact lt h3
   ·subst r;obtain⟨o,e,_⟩:=(Z.obj i s.heap).1 h4;exact lt e
   ·subst r;obtain⟨o,e,_⟩:=(Z.obj i s.heap).2 h5;exact lt e
  rw[za9 nb];exact(hf b hb).1
 done:=by
  intro X hP hw hK hc i A3 s σ H E I hf st hg;subst hP hw;obtain⟨xs,ys,hq,hx⟩:=hg;obtain⟨h1,h2,⟨a,b,h3⟩,h4,h5⟩:=st;obtain⟨n1,n2⟩:=Z.there H xs ys hq;have no:∀c∈[z,TI,TO,i1,i2],l1≠c/\l2≠c:=λc hb=>⟨λe=>n1 (by rw[e];exact(hf c hb).1),λe=>n2 (by rw[e];exact(hf c hb).1)⟩
  obtain⟨us,vs,ru,rv,inj,P1,P2,W1,W2,p1,p2,pt⟩:=Z.vals X hK A3 σ H s xs ys I hq (no i1 (by simp)).1.symm (no i2 (by simp)).2.symm;have nd:=nd5 nd;have D:ZAp z TI TO i1 i2 l1 l2:=⟨nd.1.1,nd.1.2.1,nd.1.2.2.1,nd.1.2.2.2,nd.2.1.1,nd.2.1.2.1,nd.2.1.2.2,nd.2.2.1.1,nd.2.2.1.2,nd.2.2.2,(no z (by simp)).1,(no TO (by simp)).1,(no i2 (by simp)).1,(no z (by simp)).2,(no TO (by simp)).2,(no i1 (by simp)).2⟩;have hT:s.TypeIs (.ref z) "zip":=⟨_,h1,rfl⟩;have en:us[i]?=none\/vs[i]?=none:=by
   rcases hx with hx | hx
   ·exact .inl (List.getElem?_eq_none (by rw[<-ru.length];exact hx))
   ·exact .inr (List.getElem?_eq_none (by rw[<-rv.length];exact hx))
  unfold pyNext;refine Aa1 (wpAny_attempt (wpAny_callSpecial?_slot (name:=Str.ofString "__next__") hT F.slot_zip_next (Ag1 F.slot_zip_next hT F.entry_zip_next (xx0 (I.ok.hd hc) W1 W2 D h1 h2 h3 (p1 i h4) (p2 i h5) en λh' e kk he=>?_) (F.args_zip_next_1 _))));obtain⟨o,ho,hcls⟩:=he;refine Aa1 (wpAny_isInstance (T:="StopIteration") (b:=true) ⟨o,ho,hcls⟩ isSubtype_stop (Ab1 ⟨rfl,I.turnedF hf λb o hb q=>kk b o (λn=>hb (vv8 n)) q⟩))
 self:=λ_ _ _ _ _ st h=>wpAny_pyIter_zip st.1 h
def vt7(a b:Addr):Hp->List V->List V->Prop:=λH xs ys=>H a=some (.tup xs)/\H b=some (.tup ys)
def vt8(a b:Addr):Hp->List V->List V->Prop:=λH xs ys=>H a=some (.lst xs)/\H b=some (.lst ys)
def wm4{P:Program}{w:World}{K:PySem.W.Frag}{l1 l2 i1 i2:Addr}:ZW P w K l1 l2 i1 i2 (vt7 l1 l2) (λk h=>h.IsTupleIter i1 l1 k) (λk h=>h.IsTupleIter i2 l2 k) where
 obj:=λk h=>⟨λ⟨o,ho,c,d⟩=>⟨o,ho,λv z=>by rw[d] at z;cases z⟩,λ⟨o,ho,c,d⟩=>⟨o,ho,λv z=>by rw[d] at z;cases z⟩⟩
 keep:=λk h h'=>⟨λa q=>a.at q,λa q=>a.at q⟩
 there:=λH xs ys q=>⟨(λz=>by rw[q.1] at z;cases z),(λz=>by rw[q.2] at z;cases z)⟩
 vals:=λX hK A3 σ H s xs ys I q n1 n2=>by
  obtain⟨us,ru,t1,_⟩:=I.tuple (SqT.of q.1);obtain⟨vs,rv,t2,_⟩:=I.tuple (SqT.of q.2);exact⟨us,vs,ru,rv,λxs' ys' q'=>⟨I.tuple_inj (SqT.of q'.1) (SqT.of q.1),I.tuple_inj (SqT.of q'.2) (SqT.of q.2)⟩,_,_,Wlk.tup n1,Wlk.tup n2,λk z=>⟨z,t1⟩,λk z=>⟨z,t2⟩,λk h=>⟨λz=>z.1,λz=>z.1⟩⟩
def wm5{P:Program}{w:World}{K:PySem.W.Frag}{l1 l2 i1 i2:Addr}:ZW P w K l1 l2 i1 i2 (vt8 l1 l2) (λk h=>h.IsListIter i1 l1 k) (λk h=>h.IsListIter i2 l2 k) where
 obj:=λk h=>⟨λ⟨o,ho,c,d⟩=>⟨o,ho,λv z=>by rw[d] at z;cases z⟩,λ⟨o,ho,c,d⟩=>⟨o,ho,λv z=>by rw[d] at z;cases z⟩⟩
 keep:=λk h h'=>⟨λa q=>a.at q,λa q=>a.at q⟩
 there:=λH xs ys q=>⟨(λz=>by rw[q.1] at z;cases z),(λz=>by rw[q.2] at z;cases z)⟩
 vals:=λX hK A3 σ H s xs ys I q n1 n2=>by
  obtain⟨us,ru,t1,_⟩:=I.list (SqL.of q.1);obtain⟨vs,rv,t2,_⟩:=I.list (SqL.of q.2);exact⟨us,vs,ru,rv,λxs' ys' q'=>⟨I.list_inj (SqL.of q'.1) (SqL.of q.1),I.list_inj (SqL.of q'.2) (SqL.of q.2)⟩,_,_,Wlk.lst n1,Wlk.lst n2,λk z=>⟨z,t1.isList⟩,λk z=>⟨z,t2.isList⟩,λk h=>⟨λz=>z.1,λz=>z.1⟩⟩
section
variable{X:Cx}{elts:List Expr}{x1:Nat}{tpos:Pos}
def vv6(n:Nat):[n+4,n+2,n+3,n,n+1].Nodup:=by
 simp only[Cc0,Aj0,Bi0,or_false,not_or,List.nodup_nil,and_true,not_false_eq_true];omega
def wf0{b n:Nat}(h:b∈[n+4,n+2,n+3,n,n+1]):n<=b:=by
 simp only[Aj0,Bi0,or_false] at h;omega
def ue4(ta:TA):TI:=λσ H R=>ta σ H λvs H1=>∃a b xs ys,vs=[.ref a,.ref b]/\((vt7 a b H1 xs ys/\R (Izp (vt7 a b)) H1)\/(vt8 a b H1 xs ys/\R (Izp (vt8 a b)) H1))
theorem wp6{e1 e2:Expr}{ta:TA}{p pos:Pos}(hg:Gl X "zip")(hm:X.mg "zip" = none)(ha:PA X [e1,e2] ta)(hs:starEach [e1,e2] X.env=(false,eval e1 X.env)::starEach [e2] X.env:=by rfl)(hs2:starEach [e2] X.env=[(false,eval e2 X.env)]:=by rfl):PI X (.Tuple elts x1 tpos) (.Call (.Name "zip" p) [e1,e2] [] pos) (ue4 ta):=by
 intro A3 s σ H R I h;refine Call_ (ya7 I hg hm boot_zip (PyProof.Rows.callWith_type1 (thn (ha pos A3 s σ H _ I h) λus s1 hI116=>?_) hs (by rw[hs2];rfl)));obtain⟨vs,H1,I1,r1,q1⟩:=hI116;obtain⟨a,b,xs,ys,rfl,q⟩:=q1;cases r1 with
 | cons r rr=>
   cases rr with
   | cons r' rr=>
     cases rr;cases r;cases r';have nd:=vv6 s1.heap.objs.size;have fr:∀b∈[s1.heap.objs.size+4,s1.heap.objs.size+2,s1.heap.objs.size+3,s1.heap.objs.size,s1.heap.objs.size+1],vd4 X A3 H1 b:=λb hb=>I1.fpOk (wf0 hb) (I1.hok.fresh (wf0 hb))
     rcases q with⟨hq,q⟩ | ⟨hq,q⟩
     ·obtain⟨us,ru,t1,_⟩:=I1.tuple (SqT.of hq.1)
      obtain⟨vs,rv,t2,_⟩:=I1.tuple (SqT.of hq.2);refine xw2 (show s1.heap.IsTuple a us.toArray from t1) (show s1.heap.IsTuple b vs.toArray from t2) ?_;obtain⟨z1,z2,z3,z4,z5,kk⟩:=xc9 "tuple_iterator" s1.heap a b;refine wpAny_pyIter_zip (s:={ s1 with heap:=zC "tuple_iterator" s1.heap a b }) z1 ?_;exact⟨_,_,_,_,H1,rfl,I1.kept (t':=s1.toks) kk,xd9 wm4 nd,⟨z1,z2,⟨_,_,z3⟩,⟨_,z4,rfl,rfl⟩,⟨_,z5,rfl,rfl⟩⟩,fr,q⟩
     ·obtain⟨us,ru,t1,_⟩:=I1.list (SqL.of hq.1)
      obtain⟨vs,rv,t2,_⟩:=I1.list (SqL.of hq.2);refine xw3 t1.isList t2.isList ?_;obtain⟨z1,z2,z3,z4,z5,kk⟩:=xc9 "list_iterator" s1.heap a b;refine wpAny_pyIter_zip (s:={ s1 with heap:=zC "list_iterator" s1.heap a b }) z1 ?_;exact⟨_,_,_,_,H1,rfl,I1.kept (t':=s1.toks) kk,xd9 wm5 nd,⟨z1,z2,⟨_,_,z3⟩,⟨_,z4,rfl,rfl⟩,⟨_,z5,rfl,rfl⟩⟩,fr,q⟩
variable{S:Type}{W:Wd S}{c:Dx W}{g:Gr}
def tDB{S:Type}{W:Wd S}(c:Dx W)(f:FnA S):TA:=λσ H Q=>∃ρ st,Rep c H σ ρ/\W.ok st H/\
 wpR (f ρ st) (λl st'=>∀vs H',Ext W H H'->W.ok st' H'->IsL c.K (Av c σ ρ) H' l vs->Q vs H') λx st'=>∀H',Ext W H H'->W.ok st' H'->c.Ex x st' H'
def DB(X:Cx){S:Type}{W:Wd S}(c:Dx W)(es:List Expr)(f:FnA S):Prop:=PA X es (tDB c f)
def zq9:DB X c [] (vr6 S):=zf4.imp λσ H Q ⟨ρ,st,R,ok,w⟩=>w [] H Ext.refl ok (IsL.nil.mpr rfl)
def ze5(h:DE X c .B e f)(hr:DB X c es r)(hs:starEach (e::es) X.env=(false,eval e X.env)::starEach es X.env:=by rfl):DB X c (e::es) (wy2 S f r):=
 (zb8 h hr hs).imp λσ H Q hI35=>by
  obtain⟨ρ,st,R,ok,w⟩:=hI35;refine⟨ρ,st,R,ok,za8 (za4.mp w) (λd st1 q v H1 e ok1 z=>?_) λx st1 q=>q⟩;refine⟨ρ,st1,R.ext ok e,ok1,za8 (za4.mp q) (λl st2 q vs H2 e2 ok2 z2=>?_) λx st2 q H2 e2 ok2=>q H2 (e.trans e2) ok2⟩;have z:Is c.K (Av c σ ρ) H1 d v:=z;exact q (v::vs) H2 (e.trans e2) ok2 (IsL.cons.mpr ⟨v,vs,rfl,z.ext e2 ok1 (λb n=>n.1),z2⟩)
def wz5(l m:List D):List D:=List.zipWith (λa b=>.tup [a,b]) l m
def vr1:List D->Option (List D)
 | [.tup l,.tup m]=>some (wz5 l m)
 | [.lst l,.lst m]=>some (wz5 l m)
 | _=>none
theorem yu9{i:Nat}(h:(wz5 l m)[i]?=some d):∃x y,l[i]?=some x/\m[i]?=some y/\d=.tup [x,y]:=by
 unfold wz5 at h;rw[List.getElem?_zipWith] at h;cases q:l[i]? with
 | none=>rw[q] at h;simp at h
 | some x=>
   cases q2:m[i]? with
   | none=>rw[q,q2] at h;simp at h
   | some y=>rw[q,q2] at h;cases h;exact⟨x,y,rfl,rfl,rfl⟩
def xl4{i:Nat}(h:(wz5 l m).length<=i):l.length<=i\/m.length<=i:=by
 unfold wz5 at h;rw[List.length_zipWith] at h;omega
def xc8(hi:∀(c':Dx W) σ2 ρ2 H2,ww5 (Av c σ ρ) (Av c' σ2 ρ2) H1 H2->Sq H2 xs ys)(i1:IsL c.K (Av c σ ρ) H1 l xs)(i2:IsL c.K (Av c σ ρ) H1 m ys):xj4 c σ ρ H1 (Izp Sq) (wz5 l m):=by
 intro c' hK' σ2 ρ2 H2 st2 k R2 ok2 j;have s2:Sq H2 xs ys:=hi c' σ2 ρ2 H2 k;have j1:IsL c.K (Av c' σ2 ρ2) H2 l xs:=i1.mono k;have j2:IsL c.K (Av c' σ2 ρ2) H2 m ys:=i2.mono k;refine⟨λd hd=>?_,λhl=>⟨xs,ys,s2,by rw[<-j1.length,<-j2.length];exact xl4 hl⟩⟩;obtain⟨x,y,hx,hy,rfl⟩:=yu9 hd;obtain⟨v1,hv1,iv1⟩:=j1.get hx;obtain⟨v2,hv2,iv2⟩:=j2.get hy;refine⟨⟨xs,ys,v1,v2,s2,hv1,hv2⟩,?_⟩;rintro x' H3 ⟨pp,u1,u2,hpn,rfl,rfl,hx'⟩;obtain⟨e1,e2⟩:=hx' xs ys s2;rw[hv1] at e1;cases e1;rw[hv2] at e2;cases e2;have sm:wx4 H2 (upd H2 pp (.tup [v1,v2])):=λb o hb=>by rw[za9 (zb1 hb hpn)];exact hb
 have kk:ww5 (Av c' σ2 ρ2) (Av c' σ2 ρ2) H2 (upd H2 pp (.tup [v1,v2])):=zj3 (λb o hb _=>sm b o hb) λb o a hb=>⟨a,sm b o hb⟩
 exact⟨sm,Is.tup zb3 (IsL.cons.mpr ⟨_,_,rfl,iv1.mono kk,IsL.one (iv2.mono kk)⟩)⟩
open H in
def wt3(hg:Gl X "zip")(hm:X.mg "zip" = none)(ha:DB X c [e1,e2] f)(hs:starEach [e1,e2] X.env=(false,eval e1 X.env)::starEach [e2] X.env:=by rfl)(hs2:starEach [e2] X.env=[(false,eval e2 X.env)]:=by rfl):DI X c (.Tuple elts x1 tpos) (.Call (.Name "zip" p) [e1,e2] [] pos) (vc7 S vr1 f):=
 (wp6 hg hm ha hs hs2).imp λσ H R hI36=>by
  obtain⟨ρ,st,R0,ok,w⟩:=hI36;refine⟨ρ,st,R0,ok,za8 (za4.mp w) (λl st1 q vs H1 e ok1 z=>?_) λx st1 q=>q⟩;obtain⟨m,e1,q⟩:=zb4.mp q;unfold vr1 at e1;split at e1
  ·rename_i l m
   cases e1;obtain⟨v,r,e2,i2,i3⟩:=IsL.cons.mp z;obtain⟨v',r',e3,i3,i4⟩:=IsL.cons.mp i3;obtain⟨a,xs,ea,s0,i⟩:=Is.tup_iff.mp i2;obtain⟨b,ys,eb,t0,j⟩:=Is.tup_iff.mp i3;rw[e3,IsL.nil.mp i4,ea,eb] at e2;exact⟨a,b,xs,ys,e2,.inl ⟨⟨s0,t0⟩,q _ H1 e ok1 (xc8 (λc' σ2 ρ2 H2 k=>⟨k.tup a xs s0,k.tup b ys t0⟩) i j)⟩⟩
  ·rename_i l m
   cases e1;obtain⟨v,r,e2,i2,i3⟩:=IsL.cons.mp z;obtain⟨v',r',e3,i3,i4⟩:=IsL.cons.mp i3;obtain⟨a,xs,ea,n0,s0,i⟩:=Is.lst_iff.mp i2;obtain⟨b,ys,eb,n1,t0,j⟩:=Is.lst_iff.mp i3;rw[e3,IsL.nil.mp i4,ea,eb] at e2;exact⟨a,b,xs,ys,e2,.inr ⟨⟨s0,t0⟩,q _ H1 e ok1 (xc8 (λc' σ2 ρ2 H2 k=>⟨(k.nod a _ n0 s0).2,(k.nod b _ n1 t0).2⟩) i j)⟩⟩
  ·cases e1
end
end L2
namespace HT
open PySem PyProof.Rows
section
variable{prog:Program}{w:World}{A:Around}{E:Value->Shared->Prop}{s:Shared}
end
end HT
namespace L2
section
variable{X:Cx}{e st:Expr}{te ts:TE}{p2 pos:Pos}
end
section
variable{X:Cx}{S:Type}{W:Wd S}{c:Dx W}{g ga gb:Gr}{a b:Expr}{fa fb:Fn S}{pos p2:Pos}
abbrev FnO(S:Type):=Rho->S->Res S (Option Int)
def tDO{S:Type}{W:Wd S}(c:Dx W)(f:FnO S):TO:=λσ H Q=>∃ρ st,Rep c H σ ρ/\W.ok st H/\
 wpR (f ρ st) (λo st'=>∀H',Ext W H H'->W.ok st' H'->Q o H') λx st'=>∀H',Ext W H H'->W.ok st' H'->c.Ex x st' H'
def DO(X:Cx){S:Type}{W:Wd S}(c:Dx W)(e:Option Expr)(f:FnO S):Prop:=PO X e (tDO c f)
def PO.imp(h:PO X e t)(i:∀σ H Q,t' σ H Q->t σ H Q):PO X e t':=λA3 s σ H Q I q=>h A3 s σ H Q I (i σ H Q q)
def pNo(S:Type):FnO S:=λ_ st=>.ok none st
def D.int?:D->Option Int
 | .int i=>some i
 | _=>none
def pSo(S:Type)(f:Fn S):FnO S:=λρ st=>(f ρ st).bind λd st1=>(ww7 d.int? st1).bind λi st2=>.ok (some i) st2
def xv1:DO X c none (pNo S):=xq4.imp λσ H Q ⟨ρ,st,R,ok,w⟩=>w H Ext.refl ok
theorem xv0(h:DE X c g a fa):DO X c (some a) (pSo S fa):=(xq3 h).imp λσ H Q hI37=>by
 obtain⟨ρ,st,R,ok,w⟩:=hI37;refine⟨ρ,st,R,ok,za8 (za4.mp w) (λd st1 q v H1 e ok1 z=>?_) λx st1 q=>q⟩;obtain⟨i,e1,q⟩:=zb4.mp (za4.mp q);cases d with
 | int j=>cases e1;exact⟨_,Is.int_iff.mp (show Is c.K (λb=>¬W.mv b) H1 (.int i) v from z.toR),q H1 e ok1⟩
 | _=>cases e1
def vm5(xs:List D)(lo hi:Option Int):List D:=(xs.drop (HT.sIx xs.length 0 lo)).take (HT.sIx xs.length xs.length hi-HT.sIx xs.length 0 lo)
def xv8{K:PySem.W.Frag}{A:Addr->Prop}{H:Hp}{l:List D}{vs:List V}{lo hi:Option Int}(h:IsL K A H l vs):IsL K A H (vm5 l lo hi) (vh5 vs lo hi):=by
 unfold vm5 vh5;rw[h.length];exact(h.drop _).take _
theorem yw6:∀{l:List D} {n:Nat},D.immL l=true->D.immL (l.take n)=true
 | [],_,_=>by simp[D.immL]
 | _::_,0,_=>by simp[D.immL]
 | x::l,n+1,m=>by
   have m':x.imm=true/\D.immL l=true:=by simpa [D.immL] using m
   simp only[List.take_succ_cons,D.immL,m'.1,yw6 m'.2,Cg0]
theorem yw8:∀{l:List D} {n:Nat},D.immL l=true->D.immL (l.drop n)=true
 | [],_,_=>by simp[D.immL]
 | _::_,0,m=>m
 | x::l,n+1,m=>by
   have m':x.imm=true/\D.immL l=true:=by simpa [D.immL] using m
   exact yw8 (l:=l) (n:=n) m'.2
def xh6{l:List D}{lo hi:Option Int}(m:D.immL l=true):D.immL (vm5 l lo hi)=true:=yw6 (yw8 m)
def vr4(lo hi:Option Int):D->Option D
 | .lst l=>if D.immL l=true then some (.lst (vm5 l lo hi)) else none
 | .tup l=>if D.immL l=true/\¬(HT.sIx l.length 0 lo=0/\HT.sIx l.length l.length hi=l.length) then some (.tup (vm5 l lo hi)) else none
 | _=>none
def vx4(S:Type)(f:Fn S)(lo hi:FnO S):Fn S:=λρ st=>(f ρ st).bind λd st1=>(lo ρ st1).bind λl st2=>(hi ρ st2).bind λh st3=>ww7 (vr4 l h d) st3
open H in
def wf8{lo hi:Option Expr}{fl fh:FnO S}(hK:c.K=X.K)(ha:DE X c ga a fa)(hl:DO X c lo fl)(hh:DO X c hi fh):DE X c g (.Subscript a (.Slice lo hi none p2) pos) (vx4 S fa fl fh):=
 (xf1 (xo9.or wo3) ha hl hh).imp λσ H Q hI38=>by
  obtain⟨ρ,st,R,ok,w⟩:=hI38;refine⟨ρ,st,R,ok,za8 (za4.mp w) (λd st1 q v H1 e ok1 z=>?_) λx st1 q=>q⟩;refine⟨ρ,st1,R.ext ok e,ok1,za8 (za4.mp q) (λl st2 q H2 e2 ok2=>?_) λx st2 q H2 e2 ok2=>q H2 (e.trans e2) ok2⟩;have R2:=(R.ext ok e).ext ok1 e2;refine⟨ρ,st2,R2,ok2,za8 (za4.mp q) (λh st3 q H3 e3 ok3=>?_) λx st3 q H3 e3 ok3=>q H3 ((e.trans e2).trans e3) ok3⟩;obtain⟨dd,e4,q⟩:=zb4.mp q;have ez:Ext W H1 H3:=e2.trans e3;have z3:Is c.K (λb=>¬W.mv b) H3 d v:=z.toR.ext ez ok1;have R3:=R2.ext ok2 e3;have et:Ext W H H3:=e.trans ez;cases d with
  | lst m=>
    have e4:(if D.immL m=true then some (D.lst (vm5 m l h)) else none)=some dd:=e4;split at e4
    ·rename_i im
     cases e4;obtain⟨p,vs,ev,n,s0,i⟩:=Is.lst_iff.mp z3;refine .inl ⟨p,vs,ev,.of s0,λr hr=>?_⟩;exact q _ _ (et.trans (Ext.laid hr)) (zg7 ok3 hr) ((New.val R3 (New.lst ok3 hr (λ_ n=>n) (xh6 im) (xv8 i)) g).back et ok3)
    ·cases e4
  | tup m=>
    have e4:(if D.immL m=true/\¬(HT.sIx m.length 0 l=0/\HT.sIx m.length m.length h=m.length) then some (D.tup (vm5 m l h)) else none)=some dd:=e4;split at e4
    ·rename_i im
     cases e4;obtain⟨p,vs,ev,s0,i⟩:=Is.tup_iff.mp z3;refine .inr ⟨p,vs,ev,.of s0,by rw[<-i.length];exact im.2,λr hr=>?_⟩;exact q _ _ (et.trans (Ext.laid hr)) (zg7 ok3 hr) ((New.val R3 (New.tup ok3 hr (λ_ n=>n) (xh6 im.1) (xv8 i)) g).back et ok3)
    ·cases e4
  | _=>cases e4
def zv1:List D->Option (List Int)
 | []=>some []
 | .int i::l=>(zv1 l).map λr=>i::r
 | _=>none
theorem yw4{K:PySem.W.Frag}{A:Addr->Prop}{H:Hp}:∀{l:List D} {vs:List V} {ns:List Int},zv1 l=some ns->IsL K A H l vs->vs=ns.map V.int
 | [],vs,ns,e,h=>by cases e;rw[IsL.nil.mp h];rfl
 | .int i::l,vs,ns,e,h=>by
   unfold zv1 at e;cases q:zv1 l with
   | none=>rw[q] at e;cases e
   | some r=>
     rw[q] at e;cases e;obtain⟨v,r',e1,i1,i2⟩:=IsL.cons.mp h;rw[e1,Is.int_iff.mp i1,yw4 q i2];rfl
 | .non::_,_,_,e,_=>by cases e
 | .bl _::_,_,_,e,_=>by cases e
 | .str _::_,_,_,e,_=>by cases e
 | .tup _::_,_,_,e,_=>by cases e
 | .lst _::_,_,_,e,_=>by cases e
 | .dct _ _::_,_,_,e,_=>by cases e
 | .fl _::_,_,_,e,_=>by cases e
def ud8(S:Type):FnS S:=λ_ _=>.bad
def vz5(S:Type)(i j:Nat)(f:FnA S):FnS S:=λρ st=>(f ρ st).bind λl st1=>match l with
 | [d,e]=>(ww7 (put ρ i d) st1).bind λρ1 st2=>(ww7 (put ρ1 j e) st2).bind λρ2 st3=>.ok (.nx ρ2) st3
 | _=>.bad
open H in
def zo8{i:Nat}(h:put ρ i d=some ρ'):i<ρ.length/\ρ'=ρ.set i (.bor d):=by
 unfold put at h;split at h
 ·rename_i hi;cases h;exact⟨hi,rfl⟩
 ·cases h
open H in
def yx4{i j:Nat}{x y:Str}{kt k2 pt2}(hc:X.calm=true)(hN:X.N.Nodup)(hi:X.N[i]?=some x)(hj:X.N[j]?=some y)(hij:i≠j)(hx:X.env.scope.names.lookup x=some .local)(hy:X.env.scope.names.lookup y=some .local)(ha:DB X c [a,b] f)(hw:swappedStores [.Tuple [.Name x px,.Name y py] kt pt] (.Tuple [a,b] k2 pt2) X.env=pure (some [x,y]))(hs:swapsWithSole [.Tuple [.Name x px,.Name y py] kt pt] (.Tuple [a,b] k2 pt2) pos.line X.env=pure false:=by rfl) :
 DS X c (.Assign [.Tuple [.Name x px,.Name y py] kt pt] (.Tuple [a,b] k2 pt2) pos) (vz5 S i j f):=
 (wp2 hc hN hi hj hij hx hy ha hw hs).imp λD σ H hI39=>by
  obtain⟨ρ,st,R,ok,w⟩:=hI39;refine⟨ρ,st,R,ok,za8 (za4.mp w) (λl st1 q vs H1 e ok1 z=>?_) λx st1 q H' e ok'=>q H' (e.f0 R) ok'⟩;split at q
  ·rename_i d e'
   obtain⟨v,r,e2,i2,i3⟩:=IsL.cons.mp z;obtain⟨v',r',e3,i3,i4⟩:=IsL.cons.mp i3;rw[e3,IsL.nil.mp i4] at e2;obtain⟨ρ1,e4,q⟩:=zb4.mp (za4.mp q);obtain⟨ρ2,e5,q⟩:=zb4.mp (za4.mp q);obtain⟨h4,rfl⟩:=zo8 e4;obtain⟨h5,rfl⟩:=zo8 e5;have R1:=(R.ext ok e).setB h4 i2;have k1:ww5 (Av c σ ρ) (Av c (σ.set i (some v)) (ρ.set i (.bor d))) H1 H1:=Frm.keepT (R.ext ok e) ok1 zg5;have R2:=R1.setB h5 (i3.mono k1);exact⟨v,v',e2,q _ _ ((Ext.frm e).trans (zg5.trans zg5)) ok1 R2⟩
  ·exact q.elim
def ww9(a b:D):Option D:=(wx7 (λi j=>.int (i+j)) a b).or ((vl7 a b).or ((vh0 a b).or (xs4 a b)))
def xs0:OpR X (binaryOp .Add) (λx y H Q=>rI0 (λi j=>.int (i+j)) x y H Q\/(vq8 x y H Q\/(vi7 X.K x y H Q\/xe6 X.K x y H Q))):=yv1.or (wq6.or (wj3.or wa2))
def xs2{K:PySem.W.Frag}(hK:c.K=K):OpD c (λx y H Q=>rI0 (λi j=>.int (i+j)) x y H Q\/(vq8 x y H Q\/(vi7 K x y H Q\/xe6 K x y H Q))) ww9:=vb3.or (wr0.or ((wj7 hK).or wa5))
def D.seq?:D->Option (List D)
 | .tup l=>some l
 | .lst l=>some l
 | _=>none
theorem zo1{tg e:Expr}{f:Fn S}(hK:c.K=X.K)(h:DE X c .B e f):DI X c tg e (vh9 S D.seq? f):=by
 intro A3 s σ H R I q;obtain⟨ρ,st,R0,ok,w⟩:=q;unfold vh9 at w;cases q:f ρ st with
 | bad=>rw[q] at w;exact w.elim
 | exc x st1=>
   refine wf6 (tg:=tg) hK h A3 s σ H R I ⟨ρ,st,R0,ok,?_⟩;unfold vh9;rw[q] at w ⊢;exact w
 | ok d st1=>
   rw[q] at w;cases d with
   | tup l=>
     refine wf6 (tg:=tg) hK h A3 s σ H R I ⟨ρ,st,R0,ok,?_⟩;unfold vh9;rw[q];exact w
   | lst l=>
     refine wt4 (tg:=tg) hK h A3 s σ H R I ⟨ρ,st,R0,ok,?_⟩;unfold vh9;rw[q];exact w
   | _=>exact w.elim
def vo0(S:Type)(i:Nat)(f:Fn S)(o:Int->Int->Int):FnS S:=λρ st=>match rd ρ i with
 | some (.int a)=>(f ρ st).bind λd st1=>match d with
   | .int b=>(ww7 (put ρ i (.int (o a b))) st1).bind λρ1 st2=>.ok (.nx ρ1) st2
   | _=>.bad
 | _=>.bad
open H in
def wt2{i:Nat}{x:Str}{e:Expr}{f:Fn S}{op:Operator}{o:Int->Int->Int}{p:Pos}(hN:X.N.Nodup)(hi:X.N[i]?=some x)(hx:Loc X.env.scope x)(ho:PIp X op (ipI o))(he:DE X c .R e f)(hf:X.fn x=true\/X.env.scope.names.lookup x=some .local:=by first | exact .inl rfl | exact .inr rfl | assumption) :
 DS X c (.AugAssign (.Name x p) op e pos) (vo0 S i f o):=
 (wp4 hN hi hx he ho hf).imp λD σ H hI40=>by
  obtain⟨ρ,st,R,ok,w⟩:=hI40;unfold vo0 at w;split at w
  ·rename_i a0 hr
   obtain⟨v,hv,iv⟩:=R.rd hr;refine⟨v,hv,ρ,st,R,ok,za8 (za4.mp w) (λd st1 q v2 H1 e ok1 z=>?_) λx st1 q H' e ok'=>q H' (e.f0 R) ok'⟩;split at q
   ·rename_i b0
    obtain⟨ρ1,e4,q⟩:=zb4.mp (za4.mp q);obtain⟨h4,rfl⟩:=zo8 e4;have R1:=R.ext ok e;have z':Is c.K (λb=>¬W.mv b) H1 (.int b0) v2:=z.toR;exact⟨a0,b0,Is.int_iff.mp iv,Is.int_iff.mp z',q _ _ ((Ext.frm e).trans zg5) ok1 (R1.setB h4 (Is.int_iff.mpr rfl))⟩
   ·exact q.elim
  ·exact w.elim
def ub6:List D->Res Unit D:=λ_=>.bad
def ws6{P:Program}{w:World}{K:PySem.W.Frag}{mg:Str->Option Value}{base:Heap}{f:Addr}{fd:FuncData}{ps:List Str}{k:Nat}:wy0 P w K mg base CX0 k f fd ps (sp0 K ub6):=
 ⟨λvs H Q E ⟨_,_,h⟩=>h.elim,λA outer s H args us vs Q E _ _ _ _ ⟨_,_,h⟩=>h.elim⟩
def ww8{id:String}{x:Str}{p pos:Pos}{e:Expr}{es:List Expr}{r:List V->Hp->VK->Prop}{o:List D->Option D}{f:FnA S}(ha:DA X c (e::es) f)(hc:wy3 X (.builtin id) r)(hr:wz3 c r o)(hg:Gl X x)(hm:X.mg x=none)(hv:bootBuiltins x=some (.builtin id))(hn:x≠"__name__":=by decide)(hdb:(x == ("__debug__" : Str))=false:=by decide)(he:starEach (e::es) X.env=(false,eval e X.env)::starEach es X.env:=by rfl)(hpl:(backTo pos (starEach es X.env)).any (·.1)=false:=by rfl):DE X c g (.Call (.Name x p) (e::es) [] pos) (fA S o f):=
 xi7 (id:=id) (zs1 hc hg hm hv ha hn hdb he hpl) rfl hr
def wy1{T:String}{x:Str}{p pos:Pos}{e:Expr}{es:List Expr}{r:List V->Hp->VK->Prop}{o:List D->Option D}{f:FnA S}(ha:DA X c (e::es) f)(hc:wy3 X (.type T) r)(hr:wz3 c r o)(hg:Gl X x)(hm:X.mg x=none)(hv:bootBuiltins x=some (.type T))(hn:x≠"__name__":=by decide)(hdb:(x == ("__debug__" : Str))=false:=by decide)(he:starEach (e::es) X.env=(false,eval e X.env)::starEach es X.env:=by rfl)(hpl:(backTo pos (starEach es X.env)).any (·.1)=false:=by rfl):DE X c g (.Call (.Name x p) (e::es) [] pos) (fA S o f):=
 xi7 (id:=T) (yu8 hc hg hm hv ha hn hdb he hpl) rfl hr
end
end L2
namespace PySem
namespace F
def lk_list_keys:typeLookup (.type "list") "keys" = pure none:=by rw[typeLookup_type,builtinLookup_eq_fast];kernel_rfl
end F
section
variable{prog:Program}{w:World}{A:Around}{E:Value->Shared->Prop}{s:Shared}{a:Addr}{its:Array Value}
def xt0(hp:PlainL s.heap a its)(hA:A.handled=none)(h:∀h' tk,(∀b o,s.heap.get? b=some o->h'.get? b=some o)->Q none { s with heap:=h',toks:=tk }) :
 wpAny (model prog w) A (getAttr? (.ref a) "keys") Q E s:=by
 obtain⟨⟨c,dct,dat,sl⟩,k,hx,hc,hd,hdat⟩:=hp;simp only at hc hdat hd;subst hc hdat hd;obtain⟨hp,g,d,tk,os⟩:=s;have hT:∀tk',(⟨hp,g,d,tk',os⟩:Shared).TypeIs (.ref a) "list":=λ_=>⟨_,hx,rfl⟩
 have f1:=sub_AttributeError;have f3:=F.slot_list_getattribute.lookup;have f4:=F.slot_list_getattribute.bind (.ref a);have f5:=am_list_getattr_none;unfold getAttr? getAttrBy? getAttrBy;repeat (any_goals (first | assumption | exact hT _ | ((with_reducible show wpAny _ _ (call (Value.builtin "list.__getattribute__") _ _) _ _ _);refine call_meets F.slot_list_getattribute (hT _) am_entry_list_getattribute (F.args_list_getattribute_2 _ _) (meets_getattribute_miss_list a its k sl "keys" _ F.lk_list_keys (by decide +kernel) (by size_fits)) ⟨hx,hA,λh' tk' e hx'=>?_⟩) | wp_step))
 obtain⟨t',u',he⟩:=hx'.there;show wpAny _ _ (getattributeRaised _ _ _ _ _ _ _) _ _ _;unfold getattributeRaised;repeat (any_goals (first | assumption | wp_step))
 exact h h' tk' hx'.keeps
end
end PySem
namespace PySem.F
def plain_upd_loop:plainId "dict.update.loop" = true:=by decide +kernel
def entry_upd_loop:entryFor table "dict.update.loop" = some Builtin.«dict.update.loop»:=entryFor_of_fast (by kernel_rfl)
end PySem.F
namespace L2
def zt2(H:Hp):List V->List (List Key×V)->Prop
 | [],ps=>ps=[]
 | v::vs,ps=>∃t b k x r,ps=(k,x)::r/\v=.ref t/\H t=some (.tup [.ref b,x])/\H b=some (.tup (k.map kV))/\zt2 H vs r
def yi8(kvs ps:List (List Key×V)):List (List Key×V):=ps.foldl (λacc p=>wy4 acc p.1 p.2) kvs
theorem zt2.keep(hd:∀u,H d≠some (.tup u)):∀{vs:List V} {ps:List (List Key×V)},zt2 H vs ps->zt2 (upd H d o) vs ps
 | [],ps,h=>h
 | v::vs,ps,⟨t,b,k,x,r,e1,e2,h1,h2,h3⟩=>⟨t,b,k,x,r,e1,e2,by rw[za9 (λz=>hd _ (z▸h1))];exact h1,by rw[za9 (λz=>hd _ (z▸h2))];exact h2,zt2.keep hd h3⟩
section
variable{X:Cx}{A3:List (Addr×Obj)}{σ:St}
open H in
theorem xv2(hc:X.calm=true)(hu:X.A.in1.units+1<cLine):∀(n i:Nat) (s:Shared) (H:Hp) (kvs ps:List (List Key×V)) (t:Tok),vs.length-i=n->i<=vs.length->Inv X A3 σ H s->vd4 X A3 H it->
 s.heap.IsListIter it a i->H a=some (.lst vs)->H d=some (.dT kvs)->zt2 H (vs.drop i) ps->kvs.length+ps.length<sizeLine->Q (.ref d) (upd H d (.dT (yi8 kvs ps)))->
 codeAny (model X.prog X.w) X.A.in1 (.builtin "dict.update.loop" ⟨[.ref d,.ref it,.int i t,.none],[]⟩) (wants (λr s₂=>r=.none/\EP X A3 σ Q (.ref d) s₂) X.xe) s:=by
 intro n;induction n with
 | zero=>
   intro i s H kvs ps t hn hi I hfp hit ha hd hp hz q;have e:i=vs.length:=by omega
   subst e;rw[List.drop_length] at hp;have hp:ps=[]:=hp;subst hp;obtain⟨its,rv,pl,_⟩:=I.list (SqL.of ha);obtain⟨f0,f1,f2,f3,f4,f5⟩:=hfp;refine codeAny_builtin F.entry_upd_loop ?_;rw[Around.under_plainId F.plain_upd_loop _];show wpAny _ X.A.in1.in1 (pyNext (.ref it) >>= λ_=>_) _ _ s;have hl:=rv.length;refine Aa1 (wpAny_pyNext_list_end (I.ok.hd hc) hit pl.isList (by simp;omega) λh' eb=>?_);have I1:Inv X A3 σ H { s with heap:=h' }:=I.turned (t':=s.toks) (λb o hb e=>eb b o hb e) f0 f1 f3 f4 f5;show wpAny _ X.A.in1.in1 (Builtin.Dict.addKeywords d [] >>= λ_=>ret .none) _ _ _;refine Aa1 (Ab1 (Ab1 ?_));refine⟨rfl,.ref d,H,I1,rfl,?_⟩;have e2:upd H d (.dT (yi8 kvs []))=H:=by
    funext b;by_cases hb:b=d
    ·subst hb;rw[zb3,hd];rfl
    ·rw[za9 hb]
   rw[e2] at q;exact q
 | succ n ih=>
   intro i s H kvs ps t hn hi I hfp hit ha hd hp hz q;have hi':i<vs.length:=by omega
   rw[List.drop_eq_getElem_cons hi'] at hp;obtain⟨tt,b,k,x,r,rfl,ev,ht,hb,hr⟩:=hp;obtain⟨its,rv,pl,_⟩:=I.list (SqL.of ha);obtain⟨u,hu',ru⟩:=rv.get (i:=i) (x:=vs[i]) (Ad0 hi');rw[ev] at ru;cases (show u=Value.ref tt from ru);obtain⟨f0,f1,f2,f3,f4,f5⟩:=id hfp;refine codeAny_builtin F.entry_upd_loop ?_;rw[Around.under_plainId F.plain_upd_loop _];show wpAny _ X.A.in1.in1 (pyNext (.ref it) >>= λ_=>_) _ _ s;refine Aa1 (wpAny_pyNext_list_item hit pl.isList (x:=.ref tt) (by simpa using hu') λh' hit' sb=>?_);have I1:Inv X A3 σ H { s with heap:=h' }:=I.turned (t':=s.toks) (λc o hb e=>(sb.2 c hb).trans e) f0 f1 f3 f4 f5;obtain⟨ps2,r2,p2,_⟩:=I1.tuple (SqT.of ht);obtain⟨o2,ho2,hc2,n2,hd2⟩:=id p2;obtain⟨u1,u2,rfl,rk,rx⟩:∃u1 u2,ps2=[u1,u2]/\wv5 (.ref b) u1/\wv5 x u2:=by
    cases r2 with
    | cons p q=>
      cases q with
      | cons p' q'=>cases q';exact⟨_,_,rfl,p,p'⟩
   cases (show u1=Value.ref b from rk);refine Aa1 (wpAny_holding (Aa1 (wpAny_tryCatch ?_)));unfold Builtin.Dict.pairItems;refine Aa1 (wpAny_typeOf (T:="tuple") ⟨o2,ho2,hc2⟩ ?_);rw[if_pos (by decide)];refine Aa1 (Ah1 ho2 hd2 (Ab1 ?_));obtain⟨z,hdm,xs,rel,dd⟩:=vp2 I1.hok hd;have hz1:xs.length<=sizeLine:=by rw[<-Paired.length rel];exact z
   have hlr:kvs.length+(r.length+1)<sizeLine:=by simpa using hz
   have hl:(wy4 kvs k x).length<=sizeLine:=by have:=zn9 kvs k x;omega
   show wpAny _ _ (holding [.ref b,u2] (dictSet d (.ref b) u2)) _ _ _;refine wpAny_holding (wpAny_dictSet_heap (hsz:=hz1) (tupleKind_room_in1 hu) (yn7 I1.hok hb) dd λh2 dd' hs=>Ab1 ?_);have I2:Inv X A3 σ (upd H d (.dT (wy4 kvs k x))) { s with heap:=h2,toks:=s.toks+(tupleKind (zf8 X.prog X.w)).draws k }:=by
    obtain⟨q,es,ep,hq,h2',h3,h4,_,h5⟩:=dd';refine yr8 (s:={ s with heap:=h' }) (t':=s.toks+(tupleKind (zf8 X.prog X.w)).draws k) I1 (by rw[hd];exact True.intro) hs ⟨q,hq⟩ ⟨hl,hdm,_,(rel.put k hb rx).keeps λc ys ec=>?_,q,es,ep,hq,h2',h3,h4,h5⟩;rw[za9 (vh1 ec hd (λz=>nomatch z))];exact ec
   have nit:it≠d:=λe=>by rw[e,hd] at f0;cases f0
   have nda:a≠d:=vh1 ha hd (λz=>nomatch z);have hs:Heap.SameBut d h' h2:=hs;refine⟨plainId_quiet F.plain_upd_loop _,ih (i+1) _ _ (wy4 kvs k x) r _ (by omega) (by omega) I2 ⟨by rw[za9 nit];exact f0,f1,f2,f3,f4,f5⟩ (hit'.extBut hs.extBut nit) (by rw[za9 nda];exact ha) zb3 (hr.keep λu e=>by rw[hd] at e;cases e) ?_ ?_⟩
   ·have:=zn9 kvs k x;omega
   ·rw[upd_upd];exact q
def yk9(hc:X.calm=true)(hu:X.A.in1.units+1<cLine):wy3 X (.type "dict") (λxs H Q=>∃(a:Addr) (vs:List V) (ps:List (List Key×V)),xs=[.ref a]/\H a=some (.lst vs)/\zt2 H vs ps/\ps.length<sizeLine/\∀d,H d=none->Q (.ref d) (upd H d (.dT (yi8 [] ps)))):=by
 intro A3 s σ H xs us Q I r h;obtain⟨a,vs,ps,rfl,ha,hp,hz,q⟩:=h;obtain⟨u,rfl,r1⟩:=va4 r;cases r1;have hhA:X.A.handled=none:=I.ok.hd hc;refine callType_codes (Q₁:=λobj s₁=>obj=.ref s.heap.objs.size/\s₁={ s with heap:=s.heap.push { cls:=.type "dict",data:=.dict #[] } }) F.kt_called_dict (F.kt_typeCall_dict_1 _) F.entry_dict_init (kt_code_dict_new _ ⟨rfl,rfl⟩) ?_;rintro obj s₁ ⟨rfl,rfl⟩;have hn:=I.hok.fresh (Al0 s.heap.objs.size);have I1:=I.laid (a:=s.heap.objs.size) (o:=.dT []) (h':=s.heap.push { cls:=.type "dict",data:=.dict #[] }) (t':=s.toks) (λ_ _ q=>Ab0 _ q) (Al0 _) (xi5 s.heap I.big);have hT:({ s with heap:=s.heap.push { cls:=.type "dict",data:=.dict #[] } }:Shared).TypeIs (.ref s.heap.objs.size) "dict":=⟨_,Ak0 _ rfl,rfl⟩;refine⟨hT,F.args_dict_init_2 _ _,?_⟩;unfold Builtin.«dict.__init__»;refine Aa1 ?_;unfold Builtin.Dict.selfAndRest;refine Aa1 (wpAny_notOrdered_dict hT ?_);show wpAny _ _ (pure (s.heap.objs.size,[Value.ref a])) _ _ _;refine Ab1 ?_;show wpAny _ _ (Builtin.Dict.updateFrom "dict.__init__" s.heap.objs.size (.ref a) [] .none) _ _ _;unfold Builtin.Dict.updateFrom;have nda:a≠s.heap.objs.size:=zb1 ha hn;have ha1:upd H s.heap.objs.size (.dT []) a=some (.lst vs):=by rw[za9 nda];exact ha
 obtain⟨its,rv,pl,_⟩:=I1.list (SqL.of ha1);refine Aa1 (wpAny_typeOf pl.isList.typeIs ?_);rw[if_pos (by decide)];refine Aa1 (xt0 pl hhA λh2 tk2 k2=>?_);have I2:Inv X A3 σ (upd H s.heap.objs.size (.dT [])) { s with heap:=h2,toks:=tk2 }:=I1.kept (t':=tk2) k2;obtain⟨its2,rv2,pl2,_⟩:=I2.list (SqL.of ha1);rw[if_pos (by rfl)];refine Aa1 (wpAny_rule (Aa1 (wpAny_pyIter_list pl2.isList (Ab1 ?_))));have I3:Inv X A3 σ (upd H s.heap.objs.size (.dT [])) { s with heap:=h2.push { cls:=.type "list_iterator",data:=.fields #[.ref a,.int 0 0] },toks:=tk2 }:=I2.kept (t':=tk2) λb o e=>Ab0 _ e
 have fp:vd4 X A3 (upd H s.heap.objs.size (.dT [])) h2.objs.size:=I2.fpOk (Al0 _) (I2.hok.fresh (Al0 _));refine⟨plainId_quiet F.plain_upd_loop _,xv2 hc hu (a:=a) (vs:=vs) vs.length 0 _ _ [] ps _ (by omega) (by omega) I3 fp ⟨_,Ak0 _ rfl,rfl,rfl⟩ ha1 zb3 ?_ (by simpa using hz) ?_⟩
 ·rw[List.drop_zero]
  exact hp.keep λu e=>by rw[hn] at e;cases e
 ·rw[L2.upd_upd];exact q _ hn
end
theorem yd1:∀{us:List Value} {ns:List Int},IntsAre us ns->wv6 (ns.map V.int) us
 | _,_,.nil=>.nil
 | _,_,.cons n t h=>.cons ⟨t,rfl⟩ (yd1 h)
section
variable{X:Cx}{S:Type}{W:Wd S}{c:Dx W}{g ga gb gc:Gr}{a b:Expr}{fa fb fc:Fn S}{pos p2:Pos}
def yk8:wy3 X (.builtin "sorted") (λxs H Q=>∃(a:Addr) (ns:List Int),xs=[.ref a]/\SqL X.K H a (ns.map V.int)/\ns.length<64/\∀p,H p=none->Q (.ref p) (upd H p (.lst ((sortI ns).map V.int)))):=by
 intro A3 s σ H xs us Q I r h;obtain⟨a,ns,rfl,hq,h64,q⟩:=h;obtain⟨u,rfl,r1⟩:=va4 r;cases r1;obtain⟨its,rv,p,hz⟩:=I.list hq;have hl:=rv.length;rw[Aa0] at hl;refine sorted_ints p.isList (xm6 rv) (by omega) λout ns' h1 h2 h3=>?_
 have e:=eq_sortI h2 h3;subst e;obtain⟨e,he⟩:=sortedAll_at s.heap its out;have hlen:(sortI ns).length=ns.length:=h2.length_eq;refine⟨.ref (s.heap.objs.size+1),_,I.laid (t':=s.toks) (a:=s.heap.objs.size+1) (o:=.lst ((sortI ns).map V.int)) (λb o e=>sortedAll_old e) (Nat.le_succ _) ?_,rfl,q _ (I.hok.fresh (Nat.le_succ _))⟩;refine⟨by rw[Aa0,hlen];exact Nat.le_of_lt (yh2 (by omega)),out.toList,e,yd1 h1,he⟩
def yi1:List D->Option D
 | [.lst l]=>(zv1 l).bind λns=>if ns.length<64 then some (.lst ((sortI ns).map D.int)) else none
 | _=>none
theorem xh1{K:PySem.W.Frag}{A:Addr->Prop}{H:Hp}:∀ns:List Int,IsL K A H (ns.map D.int) (ns.map V.int)
 | []=>IsL.nil.mpr rfl
 | n::ns=>IsL.cons.mpr ⟨_,_,rfl,Is.int_iff.mpr rfl,xh1 ns⟩
theorem yw7:∀ns:List Int,D.immL (ns.map D.int)=true
 | []=>rfl
 | n::ns=>by simp[D.immL,D.imm,yw7 ns]
open H in
def yy1{K:PySem.W.Frag}(hK:c.K=K):wz3 c (λxs H Q=>∃(a:Addr) (ns:List Int),xs=[.ref a]/\SqL K H a (ns.map V.int)/\ns.length<64/\∀p,H p=none->Q (.ref p) (upd H p (.lst ((sortI ns).map V.int)))) yi1:=by
 subst hK;intro l vs H st d Q ok z e q;unfold yi1 at e;split at e
 ·rename_i m
  cases qq:zv1 m with
  | none=>rw[qq] at e;cases e
  | some ns=>
    rw[qq] at e;have e:(if ns.length<64 then some (D.lst ((sortI ns).map D.int)) else none)=some d:=e;split at e
    ·rename_i h64
     cases e;obtain⟨v,r,e1,i1,i2⟩:=IsL.cons.mp z;obtain⟨a,us,ea,_,s1,i3⟩:=Is.lst_iff.mp i1;rw[IsL.nil.mp i2,ea] at e1;rw[yw4 qq i3] at s1;exact⟨a,ns,e1,.of s1,h64,λp hp=>q _ _ (Ext.laid hp) (zg7 ok hp) (New.lst ok hp (λ_ n=>n) (yw7 _) (xh1 _))⟩
    ·cases e
 ·cases e
def zx3:List D->Option (List (List Key×D))
 | []=>some []
 | .tup [k,v]::l=>if v.imm=true then (ze1 k).bind λkk=>(zx3 l).map λr=>(kk,v)::r else none
 | _=>none
def zj7(ps:List (List Key×D))(acc:List D×List D):List D×List D:=ps.foldl (λacc p=>wy8 p.1 p.2 acc.1 acc.2) acc
def vl6:List D->Option D
 | [.lst l]=>if l.length<sizeLine then (zx3 l).map λps=>.dct (.non::(zj7 ps ([],[])).1) (zj7 ps ([],[])).2 else none
 | _=>none
open H in
theorem yv0{K:PySem.W.Frag}{A:Addr->Prop}{H:Hp}:∀{l:List D} {vs:List V} {ps:List (List Key×D)},zx3 l=some ps->IsL K A H l vs->
 ∃qs:List (List Key×V),zt2 H vs qs/\qs.map (·.1)=ps.map (·.1)/\IsL K A H (ps.map (·.2)) (qs.map (·.2))/\D.immL (ps.map (·.2))=true/\qs.length=l.length
 | [],vs,ps,e,h=>by
   cases e;rw[IsL.nil.mp h];exact⟨[],rfl,rfl,IsL.nil.mpr rfl,rfl,rfl⟩
 | d::l,vs,ps,e,h=>by
   unfold zx3 at e;split at e
   ·rename_i heq
    cases heq
   ·rename_i k v l' heq
    cases heq;split at e
    ·rename_i hv
     cases q1:ze1 k with
     | none=>rw[q1] at e;cases e
     | some kk=>
       cases q2:zx3 l with
       | none=>rw[q1,q2] at e;cases e
       | some r=>
         rw[q1,q2] at e;cases e;obtain⟨w,rr,e1,i1,i2⟩:=IsL.cons.mp h;obtain⟨t,us,et,ht,i3⟩:=Is.tup_iff.mp i1;obtain⟨w1,r1,e2,j1,j2⟩:=IsL.cons.mp i3;obtain⟨w2,r2,e3,j3,j4⟩:=IsL.cons.mp j2;obtain⟨b,eb,hb,_⟩:=yj2 q1 j1;obtain⟨qs,g1,g2,g3,g4,g5⟩:=yv0 q2 i2;refine⟨(kk,w2)::qs,?_,by simp[g2],IsL.cons.mpr ⟨_,_,rfl,j3,g3⟩,by simp[D.immL,hv,g4],by simp[g5]⟩;rw[e1];refine⟨t,b,kk,w2,qs,rfl,et,?_,hb,g1⟩;rw[ht,e2,e3,eb,IsL.nil.mp j4]
    ·cases e
   ·cases e
theorem yu4{K:PySem.W.Frag}{A:Addr->Prop}{H:Hp}:∀{ps:List (List Key×D)} {qs:List (List Key×V)},qs.map (·.1)=ps.map (·.1)->IsL K A H (ps.map (·.2)) (qs.map (·.2))->D.immL (ps.map (·.2))=true->
 ∀{kk:List (List Key)} {vs:List D} {us:List V},kk.length=us.length->IsL K A H vs us->D.immL vs=true->
 ∃(kk':List (List Key)) (us':List V),(zj7 ps (kk.map wv9,vs)).1=kk'.map wv9/\IsL K A H (zj7 ps (kk.map wv9,vs)).2 us'/\kk'.length=us'.length/\yi8 (kk.zip us) qs=kk'.zip us'/\D.immL (zj7 ps (kk.map wv9,vs)).2=true
 | [],qs,e,h,m,kk,vs,us,hl,hv,mv=>by
   have:qs=[]:=by simpa using e
   subst this;exact⟨kk,us,rfl,hv,hl,rfl,mv⟩
 | (k,d)::ps,qs,e,h,m,kk,vs,us,hl,hv,mv=>by
   cases qs with
   | nil=>cases e
   | cons q qs=>
     obtain⟨k',v⟩:=q;obtain⟨w,r,e1,i1,i2⟩:=IsL.cons.mp h;have e1:v::qs.map (·.2)=w::r:=e1;cases e1;have ek:k'=k/\qs.map (·.1)=ps.map (·.1):=by simpa using e
     obtain⟨rfl,ek⟩:=ek;have m':d.imm=true/\D.immL (ps.map (·.2))=true:=by simpa [D.immL] using m
     obtain⟨kk1,us1,g1,g2,g3,g4⟩:=xv7 (k:=k') i1 hl hv;have g5:=yj7 (k:=k') (ks:=kk.map wv9) m'.1 mv;obtain⟨kk2,us2,f1,f2,f3,f4,f5⟩:=yu4 ek i2 m'.2 (kk:=kk1) (vs:=(wy8 k' d (kk.map wv9) vs).2) g3 g2 g5;have eq:zj7 ((k',d)::ps) (kk.map wv9,vs)=zj7 ps (kk1.map wv9,(wy8 k' d (kk.map wv9) vs).2):=by
      show zj7 ps (wy8 k' d (kk.map wv9) vs)=_;rw[<-g1]
     rw[eq];refine⟨kk2,us2,f1,f2,f3,?_,f5⟩;show yi8 (wy4 (kk.zip us) k' v) qs=_;rw[g4];exact f4
open H in
def wl8:wz3 c (λxs H Q=>∃(a:Addr) (vs:List V) (ps:List (List Key×V)),xs=[.ref a]/\H a=some (.lst vs)/\zt2 H vs ps/\ps.length<sizeLine/\∀d,H d=none->Q (.ref d) (upd H d (.dT (yi8 [] ps)))) vl6:=by
 intro l vs H st d Q ok z e q;unfold vl6 at e;split at e
 ·rename_i m
  split at e
  ·rename_i hz
   cases q1:zx3 m with
   | none=>rw[q1] at e;cases e
   | some ps=>
     rw[q1] at e;cases e;obtain⟨v,r,e1,i1,i2⟩:=IsL.cons.mp z;obtain⟨a,us,ea,_,s1,i3⟩:=Is.lst_iff.mp i1;rw[IsL.nil.mp i2,ea] at e1;obtain⟨qs,g1,g2,g3,g4,g5⟩:=yv0 q1 i3;refine⟨a,us,qs,e1,s1,g1,by rw[g5];exact hz,λp hp=>?_⟩;obtain⟨kk,us',f1,f2,f3,f4,f5⟩:=yu4 g2 g3 g4 (kk:=[]) (vs:=[]) (us:=[]) rfl (IsL.nil.mpr rfl) rfl;have f1:(zj7 ps ([],[])).1=kk.map wv9:=f1;have f2:IsL c.K (λb=>¬W.mv b) H (zj7 ps ([],[])).2 us':=f2;have f4:yi8 [] qs=kk.zip us':=f4;refine q _ _ (Ext.laid hp) (zg7 ok hp) (Is.dct_iff.mpr ⟨p,us',rfl,⟨zn7 ok hp,hp⟩,IsL.ofImm f5 (f2.ext (Ext.laid hp) ok λ_ n=>n),.inr ⟨kk,by rw[f1],f3,?_⟩⟩);rw[zb3,f4]
  ·cases e
 ·cases e
def vt1(i j k:Nat)(ta:TA):TS:=λD σ H=>ta σ H λvs H1=>∃u v w,vs=[u,v,w]/\D.nx (((σ.set i (some u)).set j (some v)).set k (some w)) H1
def wi6{i j k:Nat}{x y z:Str}{kt k2 pt2}(hc:X.calm=true)(hN:X.N.Nodup)(hi:X.N[i]?=some x)(hj:X.N[j]?=some y)(hk:X.N[k]?=some z)(hij:i≠j)(hik:i≠k)(hjk:j≠k)(hx:X.env.scope.names.lookup x=some .local)(hy:X.env.scope.names.lookup y=some .local)(hz:X.env.scope.names.lookup z=some .local)(ha:PA X [a,b,d] ta)(hw:swappedStores [.Tuple [.Name x px,.Name y py,.Name z pz] kt pt] (.Tuple [a,b,d] k2 pt2) X.env=pure (some [x,y,z]))(hs:swapsWithSole [.Tuple [.Name x px,.Name y py,.Name z pz] kt pt] (.Tuple [a,b,d] k2 pt2) pos.line X.env=pure false:=by rfl) :
 PS X (.Assign [.Tuple [.Name x px,.Name y py,.Name z pz] kt pt] (.Tuple [a,b,d] k2 pt2) pos) (vt1 i j k ta):=by
 intro A3 s σ H D I h;rw[exec_Assign_arm];refine Aa1 (wpAny_standAt ?_);rw[hs];refine Aa1 (Ab1 ?_);rw[if_neg (by decide)];refine Aa1 (Tuple_ (thn (ha _ A3 s σ H _ I h) λus s1 hI117=>?_));obtain⟨vs,H1,I1,r1,q1⟩:=hI117;obtain⟨u,v,w,e1,q1⟩:=q1;subst e1;obtain⟨u1,u2,u3,rfl,ru,rv,rw'⟩:∃u1 u2 u3,us=[u1,u2,u3]/\wv5 u u1/\wv5 v u2/\wv5 w u3:=by
  cases r1 with
  | cons p q=>
    cases q with
    | cons p' q'=>
      cases q' with
      | cons p'' q''=>cases q'';exact⟨_,_,_,rfl,p,p',p''⟩
 refine wpAny_newObj_type ?_ (by show 3<=sizeLine;decide);have I2:Inv X A3 σ H1 { s1 with heap:=s1.heap.push { cls:=.type "tuple",data:=.seq [u1,u2,u3].toArray } }:=I1.kept (t':=s1.toks) λb o e=>Ab0 _ e
 rw[hw];refine Aa1 (Ab1 ?_);show wpAny (model X.prog X.w) X.A (do rule "assign.swapped-stores";let items <-unpackItems (.ref s1.heap.objs.size) 3 none;assignInOrder [λv=>bindName X.env z v,λv=>bindName X.env y v,λv=>bindName X.env x v] items.reverse;pure Flow.next) _ _ _;refine Aa1 (wpAny_rule (Aa1 (unpackItems_tuple (items:=#[u1,u2,u3]) (I.ok.hd hc) (IsTup.new s1.heap _) λh' hx'=>?_)));have I3:=I2.kept (h':=h') (t':=s1.toks) λb o e=>hx' b o (Ar0 (Heap.lt_size e)) e
 show wpAny _ _ (assignInOrder [λv=>bindName X.env z v,λv=>bindName X.env y v,λv=>bindName X.env x v] [u3,u2,u1] >>= λ_=>pure Flow.next) _ _ _;refine Aa1 (assignInOrder_cons (wpAny_bindName (zh1 I3 hN hk (.inl hz) rw' (λs2 I4=>?_) (.inr hz))));refine assignInOrder_cons (wpAny_bindName (zh1 I4 hN hj (.inl hy) rv (λs3 I5=>?_) (.inr hy)));refine assignInOrder_cons (wpAny_bindName (zh1 I5 hN hi (.inl hx) ru (λs4 I6=>assignInOrder_nil (Ab1 ?_)) (.inr hx)));refine⟨_,H1,?_,q1⟩;have e:((σ.set k (some w)).set j (some v)).set i (some u)=((σ.set i (some u)).set j (some v)).set k (some w):=by
  have e1:(σ.set k (some w)).set j (some v)=(σ.set j (some v)).set k (some w):=List.set_comm _ _ (Ne.symm hjk);have e2:∀τ:St,(τ.set k (some w)).set i (some u)=(τ.set i (some u)).set k (some w):=λτ=>List.set_comm _ _ (Ne.symm hik)
  have e3:(σ.set j (some v)).set i (some u)=(σ.set i (some u)).set j (some v):=List.set_comm _ _ (Ne.symm hij);rw[e1,e2,e3]
 rw[e] at I6;exact I6
def vn7(S:Type)(i j k:Nat)(f:FnA S):FnS S:=λρ st=>(f ρ st).bind λl st1=>match l with
 | [d,e,h]=>(ww7 (put ρ i d) st1).bind λρ1 st2=>(ww7 (put ρ1 j e) st2).bind λρ2 st3=>(ww7 (put ρ2 k h) st3).bind λρ3 st4=>.ok (.nx ρ3) st4
 | _=>.bad
open H in
def xc0{i j k:Nat}{x y z:Str}{kt k2 pt2}(hc:X.calm=true)(hN:X.N.Nodup)(hi:X.N[i]?=some x)(hj:X.N[j]?=some y)(hk:X.N[k]?=some z)(hij:i≠j)(hik:i≠k)(hjk:j≠k)(hx:X.env.scope.names.lookup x=some .local)(hy:X.env.scope.names.lookup y=some .local)(hz:X.env.scope.names.lookup z=some .local)(ha:DB X c [a,b,d] f)(hw:swappedStores [.Tuple [.Name x px,.Name y py,.Name z pz] kt pt] (.Tuple [a,b,d] k2 pt2) X.env=pure (some [x,y,z]))(hs:swapsWithSole [.Tuple [.Name x px,.Name y py,.Name z pz] kt pt] (.Tuple [a,b,d] k2 pt2) pos.line X.env=pure false:=by rfl) :
 DS X c (.Assign [.Tuple [.Name x px,.Name y py,.Name z pz] kt pt] (.Tuple [a,b,d] k2 pt2) pos) (vn7 S i j k f):=
 (wi6 hc hN hi hj hk hij hik hjk hx hy hz ha hw hs).imp λD σ H hI41=>by
  obtain⟨ρ,st,R,ok,w⟩:=hI41;refine⟨ρ,st,R,ok,za8 (za4.mp w) (λl st1 q vs H1 e ok1 zz=>?_) λx st1 q H' e ok'=>q H' (e.f0 R) ok'⟩;split at q
  ·rename_i d1 d2 d3
   obtain⟨v,r,e2,i2,i3⟩:=IsL.cons.mp zz;obtain⟨v',r',e3,i3,i4⟩:=IsL.cons.mp i3;obtain⟨v'',r'',e4,i4,i5⟩:=IsL.cons.mp i4;rw[e3,e4,IsL.nil.mp i5] at e2;obtain⟨ρ1,p1,q⟩:=zb4.mp (za4.mp q);obtain⟨ρ2,p2,q⟩:=zb4.mp (za4.mp q);obtain⟨ρ3,p3,q⟩:=zb4.mp (za4.mp q);obtain⟨h1,rfl⟩:=zo8 p1;obtain⟨h2,rfl⟩:=zo8 p2;obtain⟨h3,rfl⟩:=zo8 p3;have R1:=(R.ext ok e).setB h1 i2;have k1:ww5 (Av c σ ρ) (Av c (σ.set i (some v)) (ρ.set i (.bor d1))) H1 H1:=Frm.keepT (R.ext ok e) ok1 zg5;have R2:=R1.setB h2 (i3.mono k1);have k2:ww5 (Av c (σ.set i (some v)) (ρ.set i (.bor d1))) (Av c ((σ.set i (some v)).set j (some v')) ((ρ.set i (.bor d1)).set j (.bor d2))) H1 H1:=Frm.keepT R1 ok1 zg5;have R3:=R2.setB h3 ((i4.mono k1).mono k2);exact⟨v,v',v'',e2,q _ _ ((Ext.frm e).trans (zg5.trans (zg5.trans zg5))) ok1 R3⟩
  ·exact q.elim
def vk0{S:Type}{W:Wd S}(c:Dx W):List Str->List (Fn S)->List (TE×TE)
 | k::ks,f::fs=>(tC (.str k),tD c .R f)::vk0 c ks fs
 | _,_=>[]
def vp9(S:Type):List (Fn S)->FnA S
 | []=>vr6 S
 | f::fs=>wy2 S f (vp9 S fs)
theorem yt4:∀(ks:List Str) (fs:List (Fn S)) {σ:St} {H:Hp} {ρ:Rho} {st:S} {Q:List (V×V)->Hp->Prop},ks.length=fs.length->Rep c H σ ρ->W.ok st H->
 wpR (vp9 S fs ρ st) (λl st'=>∀vs H',Ext W H H'->W.ok st' H'->IsL c.K (λb=>¬W.mv b) H' l vs->Q ((ks.zip vs).map λkv=>(V.str kv.1,kv.2)) H') (λx st'=>∀H',Ext W H H'->W.ok st' H'->c.Ex x st' H')->xe3 (vk0 c ks fs) σ H Q
 | [],[],σ,H,ρ,st,Q,_,R,ok,w=>w [] H Ext.refl ok (IsL.nil.mpr rfl)
 | k::ks,f::fs,σ,H,ρ,st,Q,hl,R,ok,w=>by
   refine⟨ρ,st,R,ok,za8 (za4.mp w) (λd st1 q v H1 e ok1 z=>?_) λx st1 q=>q⟩;refine yt4 ks fs (by simpa using hl) (R.ext ok e) ok1 (za8 (za4.mp q) (λl st2 q vs H2 e2 ok2 z2=>?_) λx st2 q H2 e2 ok2=>q H2 (e.trans e2) ok2);exact q (v::vs) H2 (e.trans e2) ok2 (IsL.cons.mpr ⟨v,vs,rfl,z.toR.ext e2 ok1,z2⟩)
 | [],_::_,_,_,_,_,_,hl,_,_,_=>by cases hl
 | _::_,[],_,_,_,_,_,hl,_,_,_=>by cases hl
def vd9(x:Str):List Str->List D->Option D
 | k::ks,v::vs=>if k=x then some v else vd9 x ks vs
 | _,_=>none
theorem ye1:∀(kvs acc:List (Key×V)),(acc.map (·.1)++kvs.map (·.1)).Nodup->ya5 acc kvs=acc++kvs
 | [],acc,_=>by show acc=acc++[];simp
 | (k,v)::kvs,acc,h=>by
   have hk:∀p∈acc,p.1≠k:=λp hp e=>by
    have:=(List.nodup_append.mp h).2.2 p.1 (List.mem_map_of_mem hp) k (by simp);exact this e
   have e:wy4 acc k v=acc++[(k,v)]:=by
    unfold wy4;rw[if_neg];intro z;obtain⟨p,hp,hq⟩:=Cj0.mp z;exact hk p hp (by simpa using hq)
   show ya5 (wy4 acc k v) kvs=_;rw[e,ye1 kvs (acc++[(k,v)]) (by simpa using h)];simp
def DKV(X:Cx){S:Type}{W:Wd S}(c:Dx W)(pos:Pos)(keys:List (Option Expr))(values:List Expr)(ks:List Str)(fs:List (Fn S)):Prop:=PPs X pos keys values (vk0 c ks fs)/\ks.length=fs.length
def wl4:DKV X c pos [] [] [] ([]:List (Fn S)):=⟨xq1,rfl⟩
def yg0{k:Str}{j}(hv:DE X c .R v f)(h:DKV X c pos keys values ks fs):DKV X c pos (some (.Constant (.str k) j p)::keys) (v::values) (k::ks) (f::fs):=
 ⟨yq0 zo9 hv h.1,by simp[h.2]⟩
def vp1(S:Type)(ks:List Str)(fs:List (Fn S))(fk:Fn S):Fn S:=λρ st=>(vp9 S fs ρ st).bind λl st1=>(fk ρ st1).bind λd st2=>match d with
 | .str x=>if D.immL l=true then ww7 (vd9 x ks l) st2 else .bad
 | _=>.bad
theorem xe9{K:PySem.W.Frag}{A:Addr->Prop}{H:Hp}{x:Str}:∀{ks:List Str} {l:List D} {vs:List V} {d:D},vd9 x ks l=some d->IsL K A H l vs->D.immL l=true->∃v,va8 ((ks.zip vs).map λkv=>((Sum.inr kv.1:Key),kv.2)) (Sum.inr x:Key)=some v/\Is K A H d v/\d.imm=true
 | [],l,vs,d,e,_,_=>by cases l<;>cases e
 | k::ks,[],vs,d,e,_,_=>by cases e
 | k::ks,y::l,vs,d,e,h,m=>by
   obtain⟨v,r,e1,i1,i2⟩:=IsL.cons.mp h;subst e1;have m':y.imm=true/\D.immL l=true:=by simpa [D.immL] using m
   unfold vd9 at e;by_cases hk:k=x
   ·rw[if_pos hk] at e;cases e
    subst hk;exact⟨v,zr4 rfl,i1,m'.1⟩
   ·rw[if_neg hk] at e
    obtain⟨v',g1,g2,g3⟩:=xe9 e i2 m'.2;refine⟨v',?_,g2,g3⟩;show va8 (((Sum.inr k:Key),v)::(ks.zip r).map λkv=>((Sum.inr kv.1:Key),kv.2)) (Sum.inr x:Key)=_;rw[zr5 (λz=>hk (Sum.inr.inj z))];exact g1
theorem ys6:∀{ks:List Str} {vs:List V},ks.Nodup->((ks.zip vs).map ((λx=>x.1) ∘ λkv=>((Sum.inr kv.1:Key),kv.2))).Nodup
 | [],_,_=>by simp
 | k::ks,[],_=>by simp
 | k::ks,v::vs,h=>by
   obtain⟨h1,h2⟩:=Cc0.mp h;show ((Sum.inr k:Key)::(ks.zip vs).map ((λx=>x.1) ∘ λkv=>((Sum.inr kv.1:Key),kv.2))).Nodup;refine Cc0.mpr ⟨λhm=>?_,ys6 h2⟩;obtain⟨⟨a,b⟩,hab,e⟩:=Bo0.mp hm;have e:a=k:=Sum.inr.inj e;subst e;exact h1 (List.of_mem_zip hab).1
open H in
def wl7(hu:X.A.units+1<cLine)(h:DKV X c dpos keys values ks fs)(hall:keys.all (·.isSome)=true)(hl:keys.length=values.length)(h0:keys≠[])(h15:keys.length<=15)(hks:ks.length<=15)(hnd:ks.Nodup)(hk:DE X c ga k fk)(hs:vz2 k):DE X c g (.Subscript (.Dict keys values dpos) k pos) (vp1 S ks fs fk):=
 (yh6 hu (xr3 h.1 hall hl h0 h15) hk hs).imp λσ H Q hI42=>by
  obtain⟨ρ,st,R,ok,w⟩:=hI42;intro p hp;have np:¬W.mv p:=zn7 ok hp;refine yt4 ks fs h.2 (R.ext ok (Ext.laid hp)) (zg7 ok hp) (za8 (za4.mp w) (λl st1 q vs H2 e2 ok2 z2=>?_) λx st1 q H2 e2 ok2=>q H2 ((Ext.laid hp).trans e2) ok2);have hp2:H2 p=some (.dK []):=e2 p _ zb3 np;refine⟨hp2,(ks.zip vs).map λkv=>((Sum.inr kv.1:Key),kv.2),by rw[Bt0];rfl,by rw[Aa0,List.length_zip];omega,?_⟩;have mk:ya5 [] ((ks.zip vs).map λkv=>((Sum.inr kv.1:Key),kv.2))=(ks.zip vs).map λkv=>((Sum.inr kv.1:Key),kv.2):=by
   rw[ye1 _ []]
   ·rfl
   ·show (((ks.zip vs).map λkv=>((Sum.inr kv.1:Key),kv.2)).map (·.1)).Nodup
    rw[Bt0];exact ys6 hnd
  rw[mk];have ex:Ext W H (upd H2 p (.dK ((ks.zip vs).map λkv=>((Sum.inr kv.1:Key),kv.2)))):=λb o hb nm=>by
   have b1:b≠p:=zb1 hb hp;rw[za9 b1];exact e2 b o (by rw[za9 b1];exact hb) nm
  have ok3:=yv2 (o:=.dK ((ks.zip vs).map λkv=>((Sum.inr kv.1:Key),kv.2))) ok2 np;have R3:=R.ext ok ex;refine⟨ρ,st1,R3,ok3,za8 (za4.mp q) (λd st2 q v H4 e4 ok4 z4=>?_) λx st2 q H4 e4 ok4=>q H4 (ex.trans e4) ok4⟩;split at q
  ·rename_i x
   split at q
   ·rename_i im
    obtain⟨dd,e5,q⟩:=zb4.mp q;have k1:ww5 (λ_=>False) (λb=>¬W.mv b/\H b=Option.none) H2 H4:=⟨λb u e sy=>by
     have b1:b≠p:=λz=>by
      subst z;rw[hp2] at e;cases e;rcases sy with⟨_,y⟩ | ⟨_,_,y⟩<;>cases y
     refine e4 b _ (by rw[za9 b1];exact e) λm=>?_
     obtain⟨o',h',n1,n2⟩:=W.live st1 H2 b ok2 m;rw[e] at h';cases h';rcases sy with⟨y,z⟩ | ⟨y1,y2,z⟩
     ·exact n1 y z
     ·exact n2 y1 y2 z,λb o f=>f.elim⟩
    have z3:IsL c.K (λ_=>False) H2 l vs:=IsL.ofImm im z2;obtain⟨v',g1,g2,g3⟩:=xe9 e5 (z3.mono k1) im;have zx:Is c.K (λb=>¬W.mv b) H4 (.str x) v:=z4.toR;refine⟨p,v',rfl,?_,q v' H4 (ex.trans e4) ok4 ((New.val (R3.ext ok3 e4) (show New c H4 H4 dd v' from Is.ofImm g3 g2) g).back (ex.trans e4) ok4)⟩;rw[Is.str_iff.mp zx,<-g1];exact vb1.k (k:=(Sum.inr x:Key)) (e4 p _ zb3 np)
   ·exact q.elim
  ·exact q.elim
def ws5{A:Around}{k:Nat}(hr:wv8 k A):A.in1.units+1<cLine:=by
 have:=hr.units;show A.units+1+1<cLine;omega
end
abbrev Dr:=List Int×Int
def stD(l:Addr)(t:Int):List (Key×V):=[(Sum.inr "cells",.ref l),(Sum.inr "turn",.int t)]
def WdS(p l:Addr):Wd Dr where
 ok:=λst H=>H p=some (.dK (stD l st.2))/\H l=some (.lst (st.1.map V.int))/\st.1≠[]/\st.1.length<=63/\0<=st.2
 mv:=λb=>b=p\/b=l
 h:=.ref p
 stay:=λst H H' ⟨a,b,c⟩ k=>⟨k p _ (.inl rfl) a,k l _ (.inr rfl) b,c⟩
 live:=λst H b hI43 m=>by
  obtain⟨a,c,_⟩:=hI43;rcases m with m | m
  ·subst m;exact⟨_,a,(λu z=>by cases z),λob u z=>by cases z⟩
  ·subst m;exact⟨_,c,(λu z=>by cases z),λob u z=>by cases z⟩
def vn0(cell turn:Int):Int:=(cell % 2147483629+turn*turn*7919+11)*48271 % 2147483647
def ua4(cell turn:Int):Int:=vn0 cell turn*vn0 cell turn % 2147483587
def ua3(cell turn:Int):Int:=(ua4 cell turn+turn*104729)*39373 % 2147483629 / 64
def plc(st:Dr):Nat:=((st.2+1) % (st.1.length:Int)).toNat
def wx8(l:List D)(st:Dr):Res Dr D:=match l with
 | [.int many]=>if 0<many/\many<1073741824/\st.2<2 ^ 40 then
  (if 1000000000000000000<=st.1.getD (plc st) 0 then .ok (.int (st.1.getD (plc st) 0 % many)) (st.1.set (plc st) (st.1.getD (plc st) 0 / many),st.2+1)
   else .ok (.int (ua3 (st.1.getD (plc st) 0) (st.2+1) % many)) (st.1,st.2+1)) else .bad
 | _=>.bad
def vk3:¬((Sum.inr ("cells" : Str)):Key)=Sum.inr ("turn" : Str):=by decide +kernel
def xy8{t:Int}:va8 (stD l t) (Sum.inr "cells" : Key)=some (.ref l):=by
 unfold stD;exact zr4 rfl
def xo8{t:Int}:va8 (stD l t) (Sum.inr "turn" : Key)=some (.int t):=by
 unfold stD;rw[zr5 (λz=>vk3 z)];exact zr4 rfl
def wo2{t u:Int}:wy4 (stD l t) (Sum.inr "turn" : Key) (.int u)=stD l u:=by
 unfold wy4;rw[zy9,xo8];refine(if_pos (show (some (V.int t)).isSome=true from rfl)).trans ?_;unfold stD;simp only[Ax0,List.map_nil];rw[if_neg (λz=>vk3 z)];simp
structure Bn(mg:Str->Option Value):Prop where
 len:mg "len" = none
 divmod:mg "divmod" = none
 list:mg "list" = none
 tuple:mg "tuple" = none
 int:mg "int" = none
 bool:mg "bool" = none
 str:mg "str" = none
 dict:mg "dict" = none
 isinstance:mg "isinstance" = none
 all:mg "all" = none
 any:mg "any" = none
 sum:mg "sum" = none
 zip:mg "zip" = none
 enumerate:mg "enumerate" = none
 range:mg "range" = none
 sorted:mg "sorted" = none
 min:mg "min" = none
 max:mg "max" = none
 abs:mg "abs" = none
 reversed:mg "reversed" = none
def zs7(ns:List Int):List Int:=if ns=[] then [7] else ns
def yz8(K:PySem.W.Frag):Sp:=λvs H Q _=>∃(a:Addr) (ns:List Int),vs=[.ref a]/\SqL K H a (ns.map V.int)/\ns.length<=63/\
 ∀(p l:Addr) (H':Hp),wx4 H H'->H p=none->H l=none->H' p=some (.dK (stD l 0))->H' l=some (.lst ((zs7 ns).map V.int))->Q (.ref p) H'
def vy4{ns:List Int}(h:ns.length<=63):vh5 (ns.map V.int) none (some 63)=ns.map V.int:=by
 unfold vh5;have e:HT.sIx (ns.map V.int).length (ns.map V.int).length (some 63)=(ns.map V.int).length:=by
  have:HT.sIx (ns.map V.int).length (ns.map V.int).length (some ((63:Nat):Int))=min 63 (ns.map V.int).length:=HT.sIx_nat _ _ _;rw[show ((63:Nat):Int)=(63:Int) from rfl] at this;rw[this,Aa0];omega
 rw[e];show ((ns.map V.int).drop 0).take ((ns.map V.int).length-0)=_;rw[List.drop_zero,Nat.sub_zero,Be0]
theorem xt8{K:PySem.W.Frag}{A:Addr->Prop}{H:Hp}:∀ns:List Int,IsL K A H (ns.map D.int) (ns.map V.int)
 | []=>IsL.nil.mpr rfl
 | n::ns=>IsL.cons.mpr ⟨_,_,rfl,Is.int_iff.mpr rfl,xt8 ns⟩
theorem yx6:∀ns:List Int,D.depL (ns.map D.int)<=1
 | []=>by simp[D.depL]
 | n::ns=>by
   have:=yx6 ns;simp only[Ax0,D.depL,D.dep];omega
def wb4(ns:List Int):D.dep (.lst (ns.map D.int))<=30:=by
 have:=yx6 ns;simp only[D.dep];omega
def wr2:ya5 [] [((Sum.inr "cells" : Key),.ref l),((Sum.inr "turn" : Key),.int 0)]=stD l 0:=by
 show wy4 (wy4 [] (Sum.inr "cells" : Key) (.ref l)) (Sum.inr "turn" : Key) (.int 0)=_;have e1:wy4 [] (Sum.inr "cells" : Key) (.ref l)=[((Sum.inr "cells" : Key),.ref l)]:=rfl;rw[e1];unfold wy4;rw[zy9,zr5 (λz=>vk3 z)];rfl
def spLaw(K:PySem.W.Frag):Sp:=λvs H Q _=>∃(a:Addr) (ns:List Int),vs=[.ref a]/\SqL K H a (ns.map V.int)/\ns.length<=63/\∀H',Q (.bl true) H'
def rhoL(n:Nat):Rho:=.no::.hnd::List.replicate (n-2) .no
def exL{X:Cx}(K:PySem.W.Frag)(F:FnS Dr):TS:=λD σ H=>∃p l,tS (cxS (WdS p l) K (λ_=>none)) F D σ H
def wi4{X:Cx}{K:PySem.W.Frag}{ss:List Stmt}{F:FnS Dr}(h:∀p l,DSs X (cxS (WdS p l) K (λ_=>none)) ss F):PSs X ss (exL (X:=X) K F):=λA3 s σ H D I ⟨p,l,q⟩=>h p l A3 s σ H D I q
def vu4{K:PySem.W.Frag}{H:Hp}{p l a:Addr}{m:Nat}:Rep (cxS (WdS p l) K (λ_=>none)) H (some (.ref a)::some (.ref p)::List.replicate m none) (rhoL (m+2)) where
 len:=by simp[rhoL]
 frame:=λb o e=>by cases e
 slot:=λi s h=>by
  unfold rhoL at h
  match i with
  | 0=>cases h;trivial
  | 1=>cases h;rfl
  | i+2=>
    have h:(List.replicate (m+2-2) Sl.no)[i]?=some s:=by simpa using h
    rw[List.getElem?_replicate] at h;split at h
    ·cases h;trivial
    ·cases h
 avl:=λb h=>h.elim
 uniq:=λi j b d e h1 h2 _ _=>by
  unfold rhoL at h1
  match i with
  | 0=>cases h1
  | 1=>cases h1
  | i+2=>
    have h1:(List.replicate (m+2-2) Sl.no)[i]?=some (.own d):=by simpa using h1
    rw[List.getElem?_replicate] at h1;split at h1
    ·cases h1
    ·cases h1
section
variable{S α β:Type}{E:Exn->S->Prop}{st:S}
open H in
def wpB(h:∀d st1,wpR (k d st1) Q E↔P d st1):wpR (r.bind k) Q E↔wpR r P E:=by
 rw[za4];exact iff_of_eq (congrArg (λz=>wpR r z E) (funext λd=>funext λst1=>propext (h d st1)))
def yc5{P:α->Prop}{a:α}{R:Prop}(k:R↔P a):R↔∃b,some a=some b/\P b:=⟨λq=>⟨a,rfl,k.mp q⟩,λh=>by obtain⟨_,e,q⟩:=h;cases e;exact k.mpr q⟩
def yc6{P:α->Prop}:False↔∃b,(none:Option α)=some b/\P b:=⟨False.elim,λh=>by obtain⟨_,e,q⟩:=h;cases e⟩
def vm4{P:Bool->Prop}{a:Bool}{R:Prop}(k:R↔P a):R↔∃b,D.bl a=.bl b/\P b:=⟨λq=>⟨a,rfl,k.mp q⟩,λh=>by obtain⟨_,e,q⟩:=h;cases e;exact k.mpr q⟩
def ws9{P:Int->Prop}{a:Int}{R:Prop}(k:R↔P a):R↔∃b,D.int a=.int b/\P b:=⟨λq=>⟨a,rfl,k.mp q⟩,λh=>by obtain⟨_,e,q⟩:=h;cases e;exact k.mpr q⟩
def ws8{P:Str->Prop}{a:Str}{R:Prop}(k:R↔P a):R↔∃b,D.str a=.str b/\P b:=⟨λq=>⟨a,rfl,k.mp q⟩,λh=>by obtain⟨_,e,q⟩:=h;cases e;exact k.mpr q⟩
def vb7{c:β->α}{d:α}{P:β->Prop}(h:∀b,d=c b->False):False↔∃b,d=c b/\P b:=⟨False.elim,λg=>by obtain⟨b,e,_⟩:=g;exact h b e⟩
def xu3{γ:Type}{c:β->α}{d:α}{P:β->γ->Prop}(h:∀b,d=c b->False):False↔∃b g,d=c b/\P b g:=⟨False.elim,λg=>by obtain⟨b,_,e,_⟩:=g;exact h b e⟩
def xb9{γ:Type}{P:Int->γ->Prop}{a:Int}{R:Prop}(k:R↔∃g,P a g):R↔∃b g,D.int a=.int b/\P b g:=⟨λh=>by obtain⟨g,q⟩:=k.mp h;exact⟨a,g,rfl,q⟩,λh=>by obtain⟨_,g,e,q⟩:=h;cases e;exact k.mpr ⟨g,q⟩⟩
def xd6{c:Prop}[Decidable c]:wpR (if c then r else .bad) Q E↔c/\wpR r Q E:=by
 by_cases h:c
 ·rw[if_pos h];exact⟨λq=>⟨h,q⟩,λq=>q.2⟩
 ·rw[if_neg h];exact⟨λq=>q.elim,λq=>h q.1⟩
def yp2:wpR ((ww7 o st).bind λρ1 st2=>Res.ok (Fl.nx ρ1) st2) Q E↔∃ρ1,o=some ρ1/\Q (.nx ρ1) st:=by rw[za4,zb4];exact Iff.rfl
def yp1{o:Option Rho}{k:Rho->S->Res S β}{Q:β->S->Prop}{P:Rho->Prop}(h:∀ρ1,wpR (k ρ1 st) Q E↔P ρ1):wpR ((ww7 o st).bind k) Q E↔∃ρ1,o=some ρ1/\P ρ1:=by
 rw[za4,zb4];exact exists_congr λρ1=>and_congr Iff.rfl (h ρ1)
end
theorem wd0{d:D}{b:Bool}:d.bool?=some b↔d=.bl b:=by
 cases d with
 | bl a=>exact⟨λe=>congrArg D.bl (Option.some.inj e),λe=>congrArg D.bool? e⟩
 | _=>exact⟨λe=>(by cases e),λe=>(by cases e)⟩
theorem int_iff{d:D}{b:Int}:d.int?=some b↔d=.int b:=by
 cases d with
 | int a=>exact⟨λe=>congrArg D.int (Option.some.inj e),λe=>congrArg D.int? e⟩
 | _=>exact⟨λe=>(by cases e),λe=>(by cases e)⟩
section
variable{S:Type}{E:Exn->S->Prop}{ρ:Rho}{st:S}
section
variable{Q:D->S->Prop}{f f1 f2' f3 fk:Fn S}
theorem wp_fAndV:wpR (vm3 S f1 f2' ρ st) Q E↔wpR (f1 ρ st) (λd st1=>∃b,d=.bl b/\(if b=true then wpR (f2' ρ st1) Q E else Q (.bl false) st1)) E:=wpB λd st1=>by
 cases d with
 | bl b=>cases b<;>exact vm4 Iff.rfl
 | _=>exact vb7 λb e=>by cases e
theorem wp_fOrV:wpR (ub1 S f1 f2' ρ st) Q E↔wpR (f1 ρ st) (λd st1=>∃b,d=.bl b/\(if b=true then Q (.bl true) st1 else wpR (f2' ρ st1) Q E)) E:=wpB λd st1=>by
 cases d with
 | bl b=>cases b<;>exact vm4 Iff.rfl
 | _=>exact vb7 λb e=>by cases e
theorem wp_fNotV:wpR (vp0 S f ρ st) Q E↔wpR (f ρ st) (λd st1=>∃b,d=.bl b/\Q (.bl (!b)) st1) E:=wpB λd st1=>by
 cases d with
 | bl b=>exact vm4 Iff.rfl
 | _=>exact vb7 λb e=>by cases e
theorem wp_fNeg:wpR (ub2 S f ρ st) Q E↔wpR (f ρ st) (λd st1=>∃i,d=.int i/\Q (.int (-i)) st1) E:=wpB λd st1=>by
 cases d with
 | int b=>exact ws9 Iff.rfl
 | _=>exact vb7 λb e=>by cases e
def wp_pSo{Q:Option Int->S->Prop}:wpR (pSo S f ρ st) Q E↔wpR (f ρ st) (λd st1=>∃i,d=.int i/\Q (some i) st1) E:=wpB λd st1=>by
 rw[za4,zb4];exact exists_congr λi=>and_congr int_iff Iff.rfl
def wp_fB{Q:Bool->S->Prop}:wpR (fB S f ρ st) Q E↔wpR (f ρ st) (λd st1=>∃b,d=.bl b/\Q b st1) E:=wpB λd st1=>by
 rw[zb4];exact exists_congr λi=>and_congr wd0 Iff.rfl
theorem wp_fDisp{ks:List Str}{fs:List (Fn S)}:wpR (vp1 S ks fs fk ρ st) Q E↔wpR (vp9 S fs ρ st) (λl st1=>wpR (fk ρ st1) (λd st2=>∃x,d=.str x/\D.immL l=true/\wpR (ww7 (vd9 x ks l) st2) Q E) E) E:=wpB λl st1=>wpB λd st2=>by
 cases d with
 | str x=>exact ws8 xd6
 | _=>exact vb7 λb e=>by cases e
theorem xw0{r:Option D}{R1 R0:Res S D}:wpR (match r with
 | some (.bl true)=>R1
 | some (.bl false)=>R0
 | _=>.bad) Q E↔∃b,r=some (.bl b)/\(if b=true then wpR R1 Q E else wpR R0 Q E):=by
 cases r with
 | none=>exact vb7 (c:=λb=>some (D.bl b)) λb e=>by cases e
 | some d=>cases d with
   | bl b=>cases b<;>exact⟨λq=>⟨_,rfl,q⟩,λh=>by obtain⟨_,e,q⟩:=h;cases e;exact q⟩
   | _=>exact vb7 (c:=λb=>some (D.bl b)) λb e=>by cases e
def wp_fChain{o o':D->D->Option D}:wpR (yx1 S o o' f1 f2' f3 ρ st) Q E↔wpR (f1 ρ st) (λd1 st1=>wpR (f2' ρ st1) (λd2 st2=>∃b,o d1 d2=some (.bl b)/\(if b=true then wpR (f3 ρ st2) (λd3 st3=>wpR (ww7 (o' d2 d3) st3) Q E) E else Q (.bl false) st2)) E) E:=wpB λd1 st1=>wpB λd2 st2=>by
 refine xw0.trans ?_;rw[za4];exact Iff.rfl
end
section
variable{Q:Fl->S->Prop}{F G B:FnS S}{t:FnT S}{f fk fv:Fn S}{i j k:Nat}
theorem wp_sAug{o:Int->Int->Int}:wpR (vo0 S i f o ρ st) Q E↔∃a,rd ρ i=some (.int a)/\wpR (f ρ st) (λd st1=>∃b ρ1,d=.int b/\put ρ i (.int (o a b))=some ρ1/\Q (.nx ρ1) st1) E:=by
 unfold vo0;cases rd ρ i with
 | none=>exact vb7 (c:=λb=>some (D.int b)) λb e=>by cases e
 | some d=>cases d with
   | int a=>
     refine(wpB λd st1=>?_).trans ⟨λq=>⟨a,rfl,q⟩,λh=>by obtain⟨_,e,q⟩:=h;cases e;exact q⟩;cases d with
     | int b=>exact xb9 yp2
     | _=>exact xu3 λb e=>by cases e
   | _=>exact vb7 (c:=λb=>some (D.int b)) λb e=>by cases e
theorem wp_sMt{o:List D->D->Option (List D)}:wpR (sMt S i o f ρ st) Q E↔∃l,ww2 ρ i=some l/\wpR (f ρ st) (λd st1=>∃l',o l d=some l'/\Q (.nx (ρ.set i (.own (.lst l')))) st1) E:=by
 unfold sMt;cases ww2 ρ i with
 | none=>exact yc6
 | some l=>
   refine yc5 (wpB λd st1=>?_);rw[za4,zb4];exact Iff.rfl
theorem wp_sItem:wpR (vn8 S i fk fv ρ st) Q E↔wpR (fv ρ st) (λv st1=>∃l,ww2 ρ i=some l/\wpR (fk ρ st1) (λd st2=>∃j n,d=.int j/\ixN l.length j=some n/\v.imm=true/\Q (.nx (ρ.set i (.own (.lst (l.set n v))))) st2) E) E:=wpB λv st1=>by
 cases ww2 ρ i with
 | none=>exact yc6
 | some l=>
   refine yc5 (wpB λd st2=>?_);cases d with
   | int j=>
     refine xb9 ?_;dsimp only;cases ixN l.length j with
     | none=>exact yc6
     | some n=>exact yc5 xd6
   | _=>exact xu3 λb e=>by cases e
theorem wp_sDPut:wpR (wd7 S i fk fv ρ st) Q E↔wpR (fv ρ st) (λv st1=>∃ks vs,va7 ρ i=some (ks,vs)/\wpR (fk ρ st1) (λd st2=>∃kk,ze1 d=some kk/\v.imm=true/\ks.length<sizeLine/\Q (.nx (ρ.set i (.own (.dct (.non::(wy8 kk v ks vs).1) (wy8 kk v ks vs).2)))) st2) E) E:=wpB λv st1=>by
 cases va7 ρ i with
 | none=>exact⟨False.elim,λh=>by obtain⟨_,_,e,_⟩:=h;cases e⟩
 | some l=>
   obtain⟨ks,vs⟩:=l;refine(wpB λd st2=>?_).trans ⟨λq=>⟨ks,vs,rfl,q⟩,λh=>by obtain⟨_,_,e,q⟩:=h;cases e;exact q⟩;cases ze1 d with
   | none=>exact yc6
   | some kk=>exact yc5 (xd6.trans and_assoc)
theorem wp_sPar{fa:FnA S}:wpR (vz5 S i j fa ρ st) Q E↔wpR (fa ρ st) (λl st1=>match l with
 | [d,e]=>∃ρ1,put ρ i d=some ρ1/\∃ρ2,put ρ1 j e=some ρ2/\Q (.nx ρ2) st1
 | _=>False) E:=wpB λl st1=>by
 match l with
 | []=>exact Iff.rfl
 | [_]=>exact Iff.rfl
 | [d,e]=>exact yp1 λ_=>yp2
 | _::_::_::_=>exact Iff.rfl
theorem wp_sPar3{fa:FnA S}:wpR (vn7 S i j k fa ρ st) Q E↔wpR (fa ρ st) (λl st1=>match l with
 | [d,e,h]=>∃ρ1,put ρ i d=some ρ1/\∃ρ2,put ρ1 j e=some ρ2/\∃ρ3,put ρ2 k h=some ρ3/\Q (.nx ρ3) st1
 | _=>False) E:=wpB λl st1=>by
 match l with
 | []=>exact Iff.rfl
 | [_]=>exact Iff.rfl
 | [_,_]=>exact Iff.rfl
 | [d,e,h]=>exact yp1 λ_=>yp1 λ_=>yp2
 | _::_::_::_::_=>exact Iff.rfl
end
end
section
variable{S α β:Type}{Q:α->S->Prop}{E:Exn->S->Prop}{ρ:Rho}{st:S}
def wp_ok{a:α}:wpR (Res.ok a st) Q E↔Q a st:=Iff.rfl
def wp_bad:wpR (Res.bad:Res S α) Q E↔False:=Iff.rfl
def wp_some{a:α}:wpR (ww7 (some a) st) Q E↔Q a st:=Iff.rfl
def wp_none:wpR (ww7 (none:Option α) st) Q E↔False:=Iff.rfl
end
section
variable{S:Type}{E:Exn->S->Prop}{ρ:Rho}{st:S}
variable{Q:Fl->S->Prop}{F G B:FnS S}{t:FnT S}{f:Fn S}{i j:Nat}
theorem zb0:wpR (vk4 S F G ρ st) Q E↔wpR (F ρ st) (λfl st1=>match fl with
 | .nx ρ1=>wpR (G ρ1 st1) Q E
 | .rt d=>Q (.rt d) st1
 | .bk r=>Q (.bk r) st1
 | .ct r=>Q (.ct r) st1) E:=by
 unfold vk4;rw[za4];cases F ρ st with
 | bad=>exact Iff.rfl
 | exc x s=>exact Iff.rfl
 | ok fl s=>cases fl<;>exact Iff.rfl
def wp_sNil:wpR (vz6 S ρ st) Q E↔Q (.nx ρ) st:=Iff.rfl
def wp_sSet:wpR (vm8 S i f ρ st) Q E↔wpR (f ρ st) (λd st1=>∃ρ1,putN ρ i d=some ρ1/\Q (.nx ρ1) st1) E:=by
 unfold vm8;rw[za4];have:∀d st1,wpR ((ww7 (putN ρ i d) st1).bind λρ' st2=>Res.ok (Fl.nx ρ') st2) Q E↔∃ρ1,putN ρ i d=some ρ1/\Q (.nx ρ1) st1:=λd st1=>by rw[za4,zb4];exact Iff.rfl
 simp only[this]
def wp_sSetB:wpR (vi6 S i f ρ st) Q E↔wpR (f ρ st) (λd st1=>∃ρ1,put ρ i d=some ρ1/\Q (.nx ρ1) st1) E:=by
 unfold vi6;rw[za4];have:∀d st1,wpR ((ww7 (put ρ i d) st1).bind λρ' st2=>Res.ok (Fl.nx ρ') st2) Q E↔∃ρ1,put ρ i d=some ρ1/\Q (.nx ρ1) st1:=λd st1=>by rw[za4,zb4];exact Iff.rfl
 simp only[this]
def wp_sAsg{g:FnG}:wpR (vu3 S g f ρ st) Q E↔wpR (f ρ st) (λd st1=>∃ρ1,g d ρ=some ρ1/\Q (.nx ρ1) st1) E:=by
 unfold vu3;rw[za4];have:∀d st1,wpR ((ww7 (g d ρ) st1).bind λρ' st2=>Res.ok (Fl.nx ρ') st2) Q E↔∃ρ1,g d ρ=some ρ1/\Q (.nx ρ1) st1:=λd st1=>by rw[za4,zb4];exact Iff.rfl
 simp only[this]
open H in
def wp_sIf:wpR (sIf S t F G ρ st) Q E↔wpR (t ρ st) (λb st1=>if b=true then wpR (F ρ st1) Q E else wpR (G ρ st1) Q E) E:=by
 unfold sIf;rw[za4];refine iff_of_eq (congrArg (λz=>wpR (t ρ st) z E) (funext λb=>funext λst1=>propext ?_));cases b<;>exact Iff.rfl
open H in
def wp_sRet:wpR (vq4 S f ρ st) Q E↔wpR (f ρ st) (λd st1=>(d.imm=true\/d.flat=true)/\Q (.rt d) st1) E:=by
 unfold vq4;rw[za4];refine iff_of_eq (congrArg (λz=>wpR (f ρ st) z E) (funext λb=>funext λst1=>propext ?_));by_cases h:b.imm=true\/b.flat=true
 ·rw[if_pos h];exact⟨λq=>⟨h,q⟩,λq=>q.2⟩
 ·rw[if_neg h];exact⟨λq=>q.elim,λq=>h q.1⟩
def wp_sRetV:wpR (vk5 S i ρ st) Q E↔∃d,own? ρ i=some d/\Q (.rt d) st:=by
 unfold vk5;rw[za4,zb4];exact Iff.rfl
def xd3:wpR (vn9 S f ρ st) Q E↔wpR (f ρ st) (λ_ st1=>Q (.nx ρ) st1) E:=by unfold vn9;rw[za4];exact Iff.rfl
def wp_sFor{fz:List Nat}{fi:FnI S}{g:FnG}:wpR (vu0 S fz fi g B ρ st) Q E↔wpR (fi (frz fz ρ) st) (λl st1=>wpR (vf1 S g B l (frz fz ρ) st1) Q E) E:=by unfold vu0;rw[za4]
def xd2:wpR (vt9 S ρ st) Q E↔Q (.rt .non) st:=Iff.rfl
def ys9:wpR (wo5 S ρ st) Q E↔Q (.bk ρ) st:=Iff.rfl
def xd4:wpR (vu2 S ρ st) Q E↔Q (.ct ρ) st:=Iff.rfl
def wp_sBad:wpR (ud8 S ρ st) Q E↔False:=Iff.rfl
theorem yz2(I:Nat->Rho->S->Prop):∀{l:List D} {ρ:Rho} {st:S} (n:Nat),I n ρ st->
 (∀i d ρ st,l[i]?=some d->I (n+i) ρ st->∃ρ1,g d ρ=some ρ1/\wpR (B ρ1 st) (λfl st'=>match fl with
  | .nx ρ2=>I (n+i+1) ρ2 st'
  | .ct ρ2=>I (n+i+1) ρ2 st'
  | .bk ρ2=>Q (.nx ρ2) st'
  | .rt d=>Q (.rt d) st') E)->(∀ρ st,I (n+l.length) ρ st->Q (.nx ρ) st)->wpR (vf1 S g B l ρ st) Q E
 | [],ρ,st,n,h0,_,he=>he ρ st h0
 | d::l,ρ,st,n,h0,hs,he=>by
   obtain⟨ρ1,e1,q⟩:=hs 0 d ρ st rfl h0;unfold vf1;rw[e1];refine za4.mpr (wp_some.mpr (za4.mpr (za8 q (λfl st' z=>?_) λx st' z=>z)));have go:∀ρ2,I (n+1) ρ2 st'->wpR (vf1 S g B l ρ2 st') Q E:=λρ2 z=>yz2 I (n+1) z (λi d ρ st h h'=>by
    have:=hs (i+1) d ρ st (by simpa using h) (by rw[show n+(i+1)=n+1+i by omega];exact h');rw[show n+(i+1)=n+1+i by omega] at this;exact this) λρ st h=>he ρ st (by rw[Au0,show n+(l.length+1)=n+1+l.length by omega];exact h)
   cases fl with
   | nx ρ2=>exact go ρ2 z
   | ct ρ2=>exact go ρ2 z
   | bk ρ2=>exact z
   | rt d=>exact z
end
section
variable{S:Type}{E:Exn->S->Prop}{ρ:Rho}{st:S}{Q:D->S->Prop}{f f1 f2' f3:Fn S}{i:Nat}{t:FnT S}
def wp_fC{d:D}:wpR (fC S d ρ st) Q E↔Q d st:=Iff.rfl
def vn2:wpR (fV S i ρ st) Q E↔wpR (ww7 (rd ρ i) st) Q E:=Iff.rfl
def wp_fVk:wpR (fVk S i ρ st) Q E↔wpR (ww7 (kp ρ i) st) Q E:=Iff.rfl
open H in
def vn3:wpR (fI S f ρ st) Q E↔wpR (f ρ st) (λd st1=>d.imm=true/\Q d st1) E:=by
 unfold fI;rw[za4];refine iff_of_eq (congrArg (λz=>wpR (f ρ st) z E) (funext λb=>funext λst1=>propext ?_));by_cases h:b.imm=true
 ·rw[if_pos h];exact⟨λq=>⟨h,q⟩,λq=>q.2⟩
 ·rw[if_neg h];exact⟨λq=>q.elim,λq=>h q.1⟩
def wp_f2{o:D->D->Option D}:wpR (f2 S o f1 f2' ρ st) Q E↔wpR (f1 ρ st) (λd1 st1=>wpR (f2' ρ st1) (λd2 st2=>wpR (ww7 (o d1 d2) st2) Q E) E) E:=by
 unfold f2;rw[za4];simp only[za4]
def wp_fA{o:List D->Option D}{fa:FnA S}:wpR (fA S o fa ρ st) Q E↔wpR (fa ρ st) (λl st1=>wpR (ww7 (o l) st1) Q E) E:=by unfold fA;rw[za4]
def wp_aNil{Q:List D->S->Prop}:wpR (vr6 S ρ st) Q E↔Q [] st:=Iff.rfl
def wp_aCons{Q:List D->S->Prop}{r:FnA S}:wpR (wy2 S f r ρ st) Q E↔wpR (f ρ st) (λd st1=>wpR (r ρ st1) (λl st2=>Q (d::l) st2) E) E:=by
 unfold wy2;rw[za4];simp only[za4];exact Iff.rfl
open H in
def wp_fCall{F:List D->Res Unit D}{fa:FnA S}:wpR (vh3 S F fa ρ st) Q E↔wpR (fa ρ st) (λl st1=>wpR (F l) (λd _=>Q d st1) λ_ _=>False) E:=by
 unfold vh3;rw[za4];refine iff_of_eq (congrArg (λz=>wpR (fa ρ st) z E) (funext λb=>funext λst1=>propext ?_));cases F b<;>exact Iff.rfl
open H in
def wp_fCallS{F:List D->S->Res S D}{fa:FnA S}:wpR (yx2 S F i fa ρ st) Q E↔ρ[i]?=some .hnd/\wpR (fa ρ st) (λl st1=>wpR (F l st1) Q λ_ _=>False) E:=by
 unfold yx2;split
 ·rename_i h
  rw[za4];have:∀b st1,wpR (match F b st1 with
   | .ok d st2=>Res.ok d st2
   | _=>Res.bad) Q E↔wpR (F b st1) Q λ_ _=>False:=λb st1=>by cases F b st1<;>exact Iff.rfl
  refine(iff_of_eq (congrArg (λz=>wpR (fa ρ st) z E) (funext λd=>funext λst1=>propext (this d st1)))).trans ?_;exact⟨λq=>⟨h,q⟩,λq=>q.2⟩
 ·rename_i h
  exact⟨λq=>q.elim,λq=>h q.1⟩
def wd2{T:Bt}:wpR (fIs S T f ρ st) Q E↔wpR (f ρ st) (λd st1=>Q (.bl (isI T d)) st1) E:=by unfold fIs;rw[za4];exact Iff.rfl
open H in
def wp_fIfE:wpR (ub3 S t f1 f2' ρ st) Q E↔wpR (t ρ st) (λb st1=>if b=true then wpR (f1 ρ st1) Q E else wpR (f2' ρ st1) Q E) E:=by
 unfold ub3;rw[za4];refine iff_of_eq (congrArg (λz=>wpR (t ρ st) z E) (funext λb=>funext λst1=>propext ?_));cases b<;>exact Iff.rfl
def wp_fCut{lo hi:FnO S}:wpR (vx4 S f lo hi ρ st) Q E↔wpR (f ρ st) (λd st1=>wpR (lo ρ st1) (λl st2=>wpR (hi ρ st2) (λh st3=>wpR (ww7 (vr4 l h d) st3) Q E) E) E) E:=by
 unfold vx4;rw[za4];simp only[za4]
def wp_pNo{Q:Option Int->S->Prop}:wpR (pNo S ρ st) Q E↔Q none st:=Iff.rfl
def wp_iSeq{Q:List D->S->Prop}{sel:D->Option (List D)}:wpR (vh9 S sel f ρ st) Q E↔wpR (f ρ st) (λd st1=>wpR (ww7 (sel d) st1) Q E) E:=by unfold vh9;rw[za4]
def wp_iArgs{Q:List D->S->Prop}{o:List D->Option (List D)}{fa:FnA S}:wpR (vc7 S o fa ρ st) Q E↔wpR (fa ρ st) (λl st1=>wpR (ww7 (o l) st1) Q E) E:=by unfold vc7;rw[za4]
def wp_fComp{fz:List Nat}{ixs:List (Option Nat)}{fi:FnI S}{g:FnG}:wpR (vf2 S fz ixs fi g t f ρ st) Q E↔wpR (fi (frz fz ρ) st) (λl st1=>wpR (wy9 S g t f l [] (pickR (frz fz ρ) ixs) st1) (λr st2=>Q (.lst r) st2) E) E:=by
 unfold vf2;rw[za4];simp only[za4];exact Iff.rfl
theorem zr2{g:FnG}{Q:List D->S->Prop}(I:Nat->List D->Rho->S->Prop):∀{l acc:List D} {ρ:Rho} {st:S} (n:Nat),I n acc ρ st->
 (∀i d acc ρ st,l[i]?=some d->I (n+i) acc ρ st->∃ρ1,g d ρ=some ρ1/\wpR (t ρ1 st) (λb st1=>if b=true then wpR (f ρ1 st1) (λy st2=>y.imm=true/\acc.length<sizeLine/\I (n+i+1) (acc++[y]) ρ1 st2) E else I (n+i+1) acc ρ1 st1) E)->
 (∀acc ρ st,I (n+l.length) acc ρ st->Q acc st)->wpR (wy9 S g t f l acc ρ st) Q E
 | [],acc,ρ,st,n,h0,_,he=>he acc ρ st h0
 | d::l,acc,ρ,st,n,h0,hs,he=>by
   obtain⟨ρ1,e1,q⟩:=hs 0 d acc ρ st rfl h0;have go:∀acc st',I (n+1) acc ρ1 st'->wpR (wy9 S g t f l acc ρ1 st') Q E:=λacc st' z=>zr2 I (n+1) z (λi d acc ρ st h h'=>by
    have:=hs (i+1) d acc ρ st (by simpa using h) (by rw[show n+(i+1)=n+1+i by omega];exact h');rw[show n+(i+1)=n+1+i by omega] at this;exact this) λacc ρ st h=>he acc ρ st (by rw[Au0,show n+(l.length+1)=n+1+l.length by omega];exact h)
   unfold wy9;rw[e1];refine za4.mpr (wp_some.mpr (za4.mpr (za8 q (λb st' z=>?_) λx st' z=>z)));cases b with
   | true=>
     have z:wpR (f ρ1 st') (λy st2=>y.imm=true/\acc.length<sizeLine/\I (n+0+1) (acc++[y]) ρ1 st2) E:=z;rw[if_pos rfl];refine za4.mpr (za8 z (λy st2 hI118=>?_) λx st' z=>z);obtain⟨h1,h2,h3⟩:=hI118;rw[if_pos ⟨h1,h2⟩];exact go _ _ h3
   | false=>exact go _ _ z
variable{Q:Bool->S->Prop}{t1 t2:FnT S}
open H in
def wp_fAnd:wpR (vx5 S t1 t2 ρ st) Q E↔wpR (t1 ρ st) (λb st1=>if b=true then wpR (t2 ρ st1) Q E else Q false st1) E:=by
 unfold vx5;rw[za4];refine iff_of_eq (congrArg (λz=>wpR (t1 ρ st) z E) (funext λb=>funext λst1=>propext ?_));cases b<;>exact Iff.rfl
open H in
def wp_fOr:wpR (fOr S t1 t2 ρ st) Q E↔wpR (t1 ρ st) (λb st1=>if b=true then Q true st1 else wpR (t2 ρ st1) Q E) E:=by
 unfold fOr;rw[za4];refine iff_of_eq (congrArg (λz=>wpR (t1 ρ st) z E) (funext λb=>funext λst1=>propext ?_));cases b<;>exact Iff.rfl
def wp_fNot:wpR (vx1 S t1 ρ st) Q E↔wpR (t1 ρ st) (λb st1=>Q (!b) st1) E:=by unfold vx1;rw[za4];exact Iff.rfl
def wp_fTrue:wpR (vh2 S ρ st) Q E↔Q true st:=Iff.rfl
end
theorem zg3{n p:Nat}{B:FnS Unit}{l:List D}{Q:D->Unit->Prop}{E:Exn->Unit->Prop}(hl:l.length=p)(hp:p<=n)(h:wpR (B (rho0 n l) ()) (λfl st=>match fl with
 | .rt d=>Q d st
 | .nx _=>Q .non st
 | _=>False) E):wpR (dfn n p B l) Q E:=by
 unfold dfn;rw[if_pos ⟨hl,hp⟩];cases q:B (rho0 n l) () with
 | bad=>rw[q] at h;exact h
 | exc x u=>rw[q] at h;exact h
 | ok fl u=>rw[q] at h;cases fl<;>exact h
theorem yg9{S:Type}{n p:Nat}{B:FnS S}{l:List D}{st:S}{Q:D->S->Prop}{E:Exn->S->Prop}(hl:l.length+1=p)(hp:p<=n)(h:wpR (B (rhoS n l) st) (λfl st=>match fl with
 | .rt d=>Q d st
 | .nx _=>Q .non st
 | _=>False) E):wpR (vh4 n p B l st) Q E:=by
 unfold vh4;rw[if_pos ⟨hl,hp⟩];cases q:B (rhoS n l) st with
 | bad=>rw[q] at h;exact h
 | exc x u=>rw[q] at h;exact h
 | ok fl u=>rw[q] at h;cases fl<;>exact h
def zc7{m:Int}{st:Dr}{Q:D->Dr->Prop}{E:Exn->Dr->Prop}(h0:0<m)(h1:m<1073741824)(h2:st.2<2 ^ 40)(h:∀v st',0<=v->v<m->st'.2=st.2+1->Q (.int v) st'):wpR (wx8 [.int m] st) Q E:=by
 unfold wx8;simp only;rw[if_pos ⟨h0,h1,h2⟩];split
 ·exact h _ _ (Int.emod_nonneg _ (by omega)) (Int.emod_lt_of_pos _ h0) rfl
 ·exact h _ _ (Int.emod_nonneg _ (by omega)) (Int.emod_lt_of_pos _ h0) rfl
def flat_lst{l:List D}:D.flat (.lst l)=D.immL l:=rfl
def flat_dct{k l:List D}:D.flat (.dct k l)=D.immL l:=rfl
def flat_int{i:Int}:D.flat (.int i)=false:=rfl
def flat_str{i:Str}:D.flat (.str i)=false:=rfl
def flat_bl{i:Bool}:D.flat (.bl i)=false:=rfl
def flat_non:D.flat .non=false:=rfl
def flat_tup{l:List D}:D.flat (.tup l)=false:=rfl
def zj2{n:Nat}(h:n<=1000):n<=sizeLine:=Nat.le_of_lt (yh2 h)
def lt_size{n:Nat}(h:n<=1000):n<sizeLine:=yh2 h
theorem zb5{α:Type}{f:α->D}(h:∀a,(f a).imm=true):∀l:List α,D.immL (l.map f)=true
 | []=>rfl
 | a::l=>by simp only[Ax0,D.immL,h a,zb5 h l,Cg0]
theorem wb7:D.immL l=true↔∀d∈l,d.imm=true:=by
 induction l with
 | nil=>simp[D.immL]
 | cons a l ih=>simp[D.immL,ih]
def zi7(m:D.immL l=true)(h:l.length<=1000):vb4 l=some (.tup l):=if_pos ⟨m,zj2 h⟩
def zi8(m:D.immL l=true)(h:l.length<=1000):ve0 l=some (.lst l):=if_pos ⟨m,zj2 h⟩
def wz9(h1:a.imm=true)(h2:b.imm=true):vb4 [a,b]=some (.tup [a,b]):=zi7 (by simp[D.immL,h1,h2]) (by simp)
def vl1(h1:a.imm=true)(h2:b.imm=true)(h3:c.imm=true):vb4 [a,b,c]=some (.tup [a,b,c]):=zi7 (by simp[D.immL,h1,h2,h3]) (by simp)
def va0:ve0 []=some (.lst []):=zi8 rfl (by simp)
def vl3(h1:a.imm=true)(h2:b.imm=true):ve0 [a,b]=some (.lst [a,b]):=zi8 (by simp[D.immL,h1,h2]) (by simp)
def zx9(m:d.imm=true)(h:l.length<=1000):vr5 l d=some (l++[d]):=if_pos ⟨m,lt_size h⟩
def imm_int{i:Int}:D.imm (.int i)=true:=by simp[D.imm]
def imm_str{i:Str}:D.imm (.str i)=true:=by simp[D.imm]
def imm_bl{i:Bool}:D.imm (.bl i)=true:=by simp[D.imm]
def imm_non:D.imm .non=true:=by simp[D.imm]
def imm_tup{l:List D}:D.imm (.tup l)=D.immL l:=by simp[D.imm]
def zi5{S:Type}{E:Exn->S->Prop}{ρ:Rho}{st:S}{Q:List D->S->Prop}{g:FnG}{t:FnT S}{f:Fn S}{l:List D}(h:D->D)(R:Rho->Prop)(h0:R ρ)(hs:∀d∈l,∀ρ,R ρ->∃ρ1,g d ρ=some ρ1/\R ρ1/\wpR (t ρ1 st) (λb st1=>b=true/\st1=st) E/\wpR (f ρ1 st) (λy st2=>y=h d/\y.imm=true/\st2=st) E)(hl:l.length<=sizeLine)(hq:Q (l.map h) st):wpR (wy9 S g t f l [] ρ st) Q E:=by
 refine zr2 (λn acc ρ' st'=>acc=(l.take n).map h/\R ρ'/\st'=st) 0 ⟨by simp,h0,rfl⟩ (λi d acc ρ' st' hd hI120=>?_) λacc ρ' st' hI119=>?_
 ·obtain⟨e1,r,e2⟩:=hI120
  subst e2;have hi:i<l.length:=(Ac0.mp hd).1;obtain⟨ρ1,q1,r1,q2,q3⟩:=hs d (Ai0 hd) ρ' r;refine⟨ρ1,q1,za8 q2 (λb st1 hI121=>?_) λx s z=>z⟩;obtain⟨eb,es⟩:=hI121;subst eb es;rw[if_pos rfl];refine za8 q3 (λy st2 ⟨ey,my,es⟩=>⟨my,?_,?_,r1,es⟩) λx s z=>z
  ·rw[e1,Aa0,Bf0];omega
  ·rw[e1,ey,Ah0,Ba0,hd,Aw0];rfl
 ·obtain⟨e1,r,e2⟩:=hI119
  rw[Ah0,Be0] at e1;subst e1 e2;exact hq
theorem yn8{α:Type}{f:α->Int}:∀l:List α,zv1 (l.map λa=>.int (f a))=some (l.map f)
 | []=>rfl
 | a::l=>by simp only[Ax0,zv1,yn8 l,Ao0]
theorem zo3{α:Type}{f:α->Bool}:∀l:List α,zi4 (l.map λa=>.bl (f a))=some (l.map f)
 | []=>rfl
 | a::l=>by simp only[Ax0,zi4,zo3 l,Ao0]
mutual
def D.lw:D->Bool
 | .bl _=>false
 | .dct _ _=>false
 | .fl _=>false
 | .tup l=>D.lwL l&&decide (l.length<=sizeLine)
 | .lst l=>D.lwL l&&decide (l.length<=sizeLine)
 | _=>true
def D.lwL:List D->Bool
 | []=>true
 | d::l=>D.lw d&&D.lwL l
end
theorem yq8:D.lwL l=true↔∀d∈l,d.lw=true:=by
 induction l with
 | nil=>simp[D.lwL]
 | cons a l ih=>simp[D.lwL,ih]
theorem xv3(h:d∈l):d.dep<=D.depL l:=by
 induction l with
 | nil=>cases h
 | cons a l ih=>
   unfold D.depL;rcases Aj0.mp h with e | e
   ·subst e;omega
   ·have:=ih e;omega
def xr6(h:d∈wz5 l l):∃x∈l,d=.tup [x,x]:=by
 obtain⟨i,hi⟩:=Bj0 h;obtain⟨x,y,h1,h2,rfl⟩:=yu9 hi;rw[h1] at h2;cases h2;exact⟨x,Ai0 h1,rfl⟩
def xj3{l:List D}:zi4 (l.map λ_=>.bl true)=some (l.map λ_=>true):=zo3 (f:=λ_=>true) l
def xt4(ha:a.imm=true)(hb:b.imm=true){c:Bool}:oIx (.lst [a,b]) (.int (if c=true then 1 else 0))=some (if c=true then b else a):=by
 cases c
 ·show im (some a)=some a
  simp[im,ha]
 ·show im (some b)=some b
  simp[im,hb]
def zf0{j:Int}(h:j<=1000)(h0:0<=j):xa7 [.int j]=some (zq2 0 j.toNat):=if_pos ⟨by omega,by omega⟩
def zd5{lo:Int}{n:Nat}:(zq2 lo n).length=n:=by unfold zq2;simp
theorem ze9{lo:Int}{n i:Nat}(h:(zq2 lo n)[i]?=some d):d=.int (lo+i)/\i<n:=by
 unfold zq2 at h;rw[Ag0] at h;cases q:(List.range n)[i]? with
 | none=>rw[q] at h;cases h
 | some k=>
   rw[q] at h;obtain⟨hi,e⟩:=Ac0.mp q;rw[List.getElem_range] at e;subst e;cases h;exact⟨rfl,by simpa using hi⟩
mutual
theorem xi2:∀{d:D},d.lw=true->D.eqq d d=some true
 | .non,_=>rfl
 | .bl _,h=>by simp[D.lw] at h
 | .int i,_=>by simp[D.eqq]
 | .str i,_=>by simp[D.eqq]
 | .tup l,h=>by
   have h':D.lwL l=true/\l.length<=sizeLine:=by simpa [D.lw] using h
   simp only[D.eqq,yr2 h'.1]
 | .lst l,h=>by
   have h':D.lwL l=true/\l.length<=sizeLine:=by simpa [D.lw] using h
   simp only[D.eqq,yr2 h'.1,if_true]
 | .dct _ _,h=>by simp[D.lw] at h
theorem yr2:∀{l:List D},D.lwL l=true->D.eqL l l=some true
 | [],_=>rfl
 | d::l,h=>by
   have h':d.lw=true/\D.lwL l=true:=by simpa [D.lwL] using h
   simp only[D.eqL,xi2 h'.1,yr2 h'.2,Option.bind_some,Ao0,Cg0]
end
theorem zm7{α:Type}{f:α->D}{n:Nat}(h:∀a,(f a).dep<=n):∀l:List α,D.depL (l.map f)<=n
 | []=>Bb0 _
 | a::l=>by
   have h1:=h a;have h2:=zm7 h l;simp only[Ax0,D.depL];omega
def wa7{neg:Bool}(h:d.lw=true)(hd:d.dep<=30):oEq neg d d=some (.bl (if neg then false else true)):=by
 unfold oEq;rw[if_pos hd,xi2 h];cases neg<;>rfl
section
variable{S:Type}{E:Exn->S->Prop}{ρ:Rho}{st:S}{Q:Fl->S->Prop}{f fk fv:Fn S}{i j k:Nat}{t:FnT S}{B:FnS S}
theorem yg6(I:Rho->S->Prop)(μ:Rho->S->Nat)(hs:∀ρ st,I ρ st->wpR (t ρ st) (λb st1=>if b=true then wpR (B ρ st1) (λfl st2=>match fl with
 | .nx ρ2=>I ρ2 st2/\μ ρ2 st2<μ ρ st
 | .ct ρ2=>I ρ2 st2/\μ ρ2 st2<μ ρ st
 | .bk ρ2=>Q (.nx ρ2) st2
 | .rt d=>Q (.rt d) st2) E else Q (.nx ρ) st1) E):∀(n:Nat) (ρ:Rho) (st:S),I ρ st->μ ρ st<n->wpR (zj6 S t B n ρ st) Q E
 | 0,_,_,_,h=>absurd h (Nat.not_lt_zero _)
 | n+1,ρ,st,h,hm=>by
   unfold zj6;refine za4.mpr (za8 (hs ρ st h) (λb st1 q=>?_) λx s z=>z);cases b with
   | false=>exact q
   | true=>
     have q:wpR (B ρ st1) _ E:=q;rw[if_pos rfl];refine za4.mpr (za8 q (λfl st2 z=>?_) λx s z=>z);cases fl with
     | nx ρ2=>exact yg6 I μ hs n ρ2 st2 z.1 (by have:=z.2;omega)
     | ct ρ2=>exact yg6 I μ hs n ρ2 st2 z.1 (by have:=z.2;omega)
     | bk ρ2=>exact z
     | rt d=>exact z
theorem xn9(I:Rho->S->Prop)(μ:Rho->S->Nat)(h0:I ρ st)(hs:∀ρ st,I ρ st->wpR (t ρ st) (λb st1=>if b=true then wpR (B ρ st1) (λfl st2=>match fl with
 | .nx ρ2=>I ρ2 st2/\μ ρ2 st2<μ ρ st
 | .ct ρ2=>I ρ2 st2/\μ ρ2 st2<μ ρ st
 | .bk ρ2=>Q (.nx ρ2) st2
 | .rt d=>Q (.rt d) st2) E else Q (.nx ρ) st1) E):wpR (ym0 S t B ρ st) Q E:=by
 have h:=yg6 (Q:=Q) (E:=E) I μ hs (μ ρ st+1) ρ st h0 (Nat.lt_succ_self _);rw[yu2 (n:=μ ρ st+1) (λz=>by rw[z] at h;exact h)];exact h
end
section
variable{S:Type}{E:Exn->S->Prop}{ρ:Rho}{st:S}{Q:D->S->Prop}{f1 f2' f3 fk:Fn S}
end
def yw9[∀i j,Decidable (C i j)]{i j:Int}(h:C i j):iOp C g (.int i) (.int j)=some (g i j):=if_pos h
section
variable{S:Type}{E:Exn->S->Prop}{ρ:Rho}{st:S}{Q:Fl->S->Prop}{F G:FnS S}
def wn4(I:Rho->S->Prop)(h1:wpR (F ρ st) (λfl st1=>∃ρ1,fl=.nx ρ1/\I ρ1 st1) E)(h2:∀ρ1 st1,I ρ1 st1->wpR (G ρ1 st1) Q E):wpR (vk4 S F G ρ st) Q E:=
 zb0.mpr (za8 h1 (λfl st1 ⟨ρ1,e,h⟩=>by subst e;exact h2 ρ1 st1 h) λx s z=>z)
end
def xg6{n:Nat}(h:n<=1000000):n<sizeLine:=by rw[sizeLine_eq];omega
def xw5{v:Int}(h0:0<=v)(h1:v<l.length):∃d,atI l v=some d/\l[v.toNat]?=some d:=by
 have hv:v.toNat<l.length:=by omega
 refine⟨l[v.toNat],?_,Ad0 hv⟩;have:=xc5 (Ad0 hv);rwa [show ((v.toNat:Nat):Int)=v by omega] at this
def xh0{v:Int}(m:D.immL l=true)(h0:0<=v)(h1:v<l.length):∃d∈l,oIx (.lst l) (.int v)=some d:=by
 obtain⟨d,e,e2⟩:=xw5 h0 h1;have hd:=Ai0 e2;refine⟨d,hd,?_⟩;show im (atI l v)=_;rw[e];simp[im,wb7.mp m d hd]
def zx5{v:Int}(m:d.imm=true)(h0:0<=v)(h:l[v.toNat]?=some d):oIx (.lst l) (.int v)=some d/\oIx (.tup l) (.int v)=some d:=by
 have h1:v<l.length:=by have:=(Ac0.mp h).1;omega
 obtain⟨d',e,e2⟩:=xw5 h0 h1;rw[h] at e2;cases e2;constructor
 ·show im (atI l v)=_
  rw[e];simp[im,m]
 ·show im (atI l v)=_
  rw[e];simp[im,m]
def zy3{i j:Int}:D.eqq (.int i) (.int j)=some (i == j):=by simp only[D.eqq]
def wk9{i j:Str}:D.eqq (.str i) (.str j)=some (i == j):=by simp only[D.eqq]
def zi9{neg:Bool}{i j:Int}:oEq neg (.int i) (.int j)=some (.bl (if neg then !(i == j) else (i == j))):=by
 unfold oEq;rw[if_pos (by simp[D.dep]),zy3];rfl
def yi2{neg:Bool}{i j:Str}:oEq neg (.str i) (.str j)=some (.bl (if neg then !(i == j) else (i == j))):=by
 unfold oEq;rw[if_pos (by simp[D.dep]),wk9];rfl
theorem yx7:∀{ks vs:List D},ks.length=vs.length->(wv3 k ks (List.zipWith g ks vs)).isSome=(wv3 k ks vs).isSome
 | [],[],_=>rfl
 | a::ks,b::vs,h=>by
   show (wv3 k (a::ks) (g a b::List.zipWith g ks vs)).isSome=_;unfold wv3;by_cases e:ze1 a=some k
   ·rw[if_pos e,if_pos e];rfl
   ·rw[if_neg e,if_neg e];exact yx7 (by simpa using h)
 | [],_::_,h=>by cases h
 | _::_,[],h=>by cases h
theorem yx9:∀{ks vs:List D},ks.length=vs.length->(wv3 k (ks++[wv9 k']) (vs++[v])).isSome=((wv3 k ks vs).isSome||decide (k'=k))
 | [],[],_=>by
   show (wv3 k [wv9 k'] [v]).isSome=_;unfold wv3;rw[zi6];by_cases e:k'=k
   ·rw[if_pos (by rw[e])];simp[e]
   ·rw[if_neg (λz=>e (Option.some.inj z))];simp[wv3,e]
 | a::ks,b::vs,h=>by
   show (wv3 k (a::(ks++[wv9 k'])) (b::(vs++[v]))).isSome=_;unfold wv3;by_cases e:ze1 a=some k
   ·rw[if_pos e,if_pos e];rfl
   ·rw[if_neg e,if_neg e];exact yx9 (by simpa using h)
 | [],_::_,h=>by cases h
 | _::_,[],h=>by cases h
def yg4(h:ks.length=vs.length):(wy8 k v ks vs).1.length=(wy8 k v ks vs).2.length/\(wy8 k v ks vs).1.length<=ks.length+1:=by
 unfold wy8;split
 ·simp[List.length_zipWith,h]
 ·simp[h]
open H in
def xv6(h:ks.length=vs.length):(wv3 k (wy8 k' v ks vs).1 (wy8 k' v ks vs).2).isSome=((wv3 k ks vs).isSome||decide (k'=k)):=by
 unfold wy8;split
 ·rename_i hs
  rw[yx7 h];by_cases e:k'=k
  ·subst e;simp[hs]
  ·simp[e]
 ·exact yx9 h
def Holds(d:D)(n:Nat)(P:List Key->Prop):Prop:=∃ks vs,d=.dct (.non::ks) vs/\D.immL vs=true/\ks.length=vs.length/\ks.length<=n/\∀k,(wv3 k ks vs).isSome=true↔P k
def Holds.put{n:Nat}(h:Holds (.dct (.non::ks) vs) n P)(hv:v.imm=true):Holds (.dct (.non::(wy8 k v ks vs).1) (wy8 k v ks vs).2) (n+1) (λq=>P q\/k=q):=by
 obtain⟨ks',vs',e,h1,h2,h3,h4⟩:=h;cases e;refine⟨_,_,rfl,yj7 hv h1,(yg4 h2).1,by have:=(yg4 (k:=k) (v:=v) h2).2;omega,λq=>?_⟩;rw[xv6 h2,Bool.or_eq_true,h4 q,decide_eq_true_eq]
theorem Holds.all:∀{ps:List (List Key×D)} {ks vs:List D} {n:Nat} {P:List Key->Prop},Holds (.dct (.non::ks) vs) n P->(∀p∈ps,p.2.imm=true)->Holds (.dct (.non::(zj7 ps (ks,vs)).1) (zj7 ps (ks,vs)).2) (n+ps.length) (λq=>P q\/∃p∈ps,p.1=q)
 | [],ks,vs,n,P,h,_=>by
   obtain⟨ks',vs',e,h1,h2,h3,h4⟩:=h;exact⟨ks',vs',e,h1,h2,h3,λq=>by rw[h4 q];simp⟩
 | p::ps,ks,vs,n,P,h,hv=>by
   have h':=Holds.all (ps:=ps) (h.put (k:=p.1) (hv p (by simp))) λq hq=>hv q (by simp[hq])
   obtain⟨ks',vs',e,h1,h2,h3,h4⟩:=h';refine⟨ks',vs',e,h1,h2,by simp;omega,λq=>?_⟩;rw[h4 q];simp only[Aj0,exists_eq_or_imp];constructor
   ·rintro ((a | a) | a)
    ·exact .inl a
    ·exact .inr (.inl a)
    ·exact .inr (.inr a)
   ·rintro (a | a | a)
    ·exact .inl (.inl a)
    ·exact .inl (.inr a)
    ·exact .inr a
def Holds.in_{n:Nat}(h:Holds d n P)(hk:ze1 k=some kk){b:Bool}(hb:b=true↔P kk):vm9 false k d=some (.bl b)/\vm9 true k d=some (.bl (!b)):=by
 obtain⟨ks,vs,rfl,h1,h2,h3,h4⟩:=h;have e:(wv3 kk ks vs).isSome=b:=by rw[Cd0,h4,hb]
 constructor
 ·show (ze1 k).map _=_
  rw[hk];show some (D.bl (wv3 kk ks vs).isSome)=_;rw[e]
 ·show (ze1 k).map _=_
  rw[hk];show some (D.bl (!(wv3 kk ks vs).isSome))=_;rw[e]
def Holds.flat{n:Nat}(h:Holds d n P):d.flat=true:=by
 obtain⟨ks,vs,rfl,h1,h2,h3,h4⟩:=h;exact h1
def Holds.nil{n:Nat}:Holds (.dct [.non] []) n (λ_=>False):=⟨[],[],rfl,rfl,rfl,Bb0 _,λk=>by simp[wv3]⟩
def Holds.imp{n m:Nat}(h:Holds d n P)(hm:n<=m)(hp:∀k,P k↔P' k):Holds d m P':=by
 obtain⟨ks,vs,e,h1,h2,h3,h4⟩:=h;exact⟨ks,vs,e,h1,h2,by omega,λk=>by rw[h4 k,hp k]⟩
def FrT(K:PySem.W.Frag)(a:Addr)(xs:List V):Prop:=∃(o:Obj) (its:Array Value) (n:Nat),K.lookup a=some o/\o.cls=.type "tuple"/\o.data=.seq its n/\its.size<=sizeLine/\wv6 xs its.toList
def FrT.sq{K:PySem.W.Frag}{a:Addr}{xs:List V}{H:Hp}(h:FrT K a xs):SqT K H a xs:=.inr h
def vy8(K:PySem.W.Frag)(a:Addr)(tbl:List (Int×Int)):Prop:=∃vs,FrT K a vs/\vs.length=tbl.length/\∀(i:Nat) (p:Int×Int),tbl[i]?=some p->∃b,vs[i]?=some (.ref b)/\FrT K b [.int p.1,.int p.2]
section
variable{X:Cx}{S:Type}{W:Wd S}{c:Dx W}{g ga gb gc:Gr}{a b:Expr}{fa fb fc:Fn S}{pos p2:Pos}{E:Exn->S->Prop}{ρ:Rho}{st:S}
def wc5{x:Str}{i:Int}(hc:∃t,X.mg x=some (.int i t))(hg:Gl X x)(hd:(x == ("__debug__" : Str))=false:=by decide):DE X c g (.Name x pos) (fC S (.int i)):=by
 obtain⟨t,hm⟩:=hc;exact(zu2 (v:=.int i) hg hm ⟨t,rfl⟩ hd).imp λσ H Q ⟨ρ,st,R,ok,w⟩=>w _ _ Ext.refl ok (New.val R (show New c H H (.int _) (.int _) from Is.int_iff.mpr rfl) g)
def vn6(S:Type)(tbl:List (Int×Int))(i j:Nat)(f:Fn S):FnS S:=λρ st=>(f ρ st).bind λd st1=>match d with
 | .int k=>if 0<=k then match tbl[k.toNat]? with
  | some p=>(ww7 (put ρ i (.int p.1)) st1).bind λρ1 st2=>(ww7 (put ρ1 j (.int p.2)) st2).bind λρ2 st3=>.ok (.nx ρ2) st3
  | none=>.bad
   else .bad
 | _=>.bad
open H in
def wl3{x n1 n2:Str}{e:Expr}{f:Fn S}{tbl:List (Int×Int)}{i j:Nat}{a0:Addr}{px p1 p2 pt ps:Pos}{kt}(hc:X.calm=true)(hK:c.K=X.K)(hm:∃a0,X.mg x=some (.ref a0)/\vy8 X.K a0 tbl)(hg:Gl X x)(hN:X.N.Nodup)(hi:X.N[i]?=some n1)(hj:X.N[j]?=some n2)(h1:Loc X.env.scope n1)(h2:Loc X.env.scope n2)(he:DE X c .R e f)(hpi:yl2 e)(hd:(x == ("__debug__" : Str))=false:=by decide)(hf1:X.fn n1=true\/X.env.scope.names.lookup n1=some .local:=by first | exact .inl rfl | exact .inr rfl | assumption)(hf2:X.fn n2=true\/X.env.scope.names.lookup n2=some .local:=by first | exact .inl rfl | exact .inr rfl | assumption)(hs:swapsWithSole [.Tuple [.Name n1 p1,.Name n2 p2] kt pt] (.Subscript (.Name x px) e ps) pos.line X.env=pure false:=by rfl)(hw:swappedStores [.Tuple [.Name n1 p1,.Name n2 p2] kt pt] (.Subscript (.Name x px) e ps) X.env=pure none:=by rfl)(ha:(assignEach [.Tuple [.Name n1 p1,.Name n2 p2] kt pt] X.env).map (·.2)=[assign (.Tuple [.Name n1 p1,.Name n2 p2] kt pt) X.env]:=by rfl)(hn:(assignEach [.Name n1 p1,.Name n2 p2] X.env).length=2:=by rfl)(hst:(assignEach [.Name n1 p1,.Name n2 p2] X.env).findIdx? (·.1)=none:=by rfl)(hs1:(assignEach [.Name n1 p1,.Name n2 p2] X.env).map (·.2)=assign (.Name n1 p1) X.env::(assignEach [.Name n2 p2] X.env).map (·.2):=by rfl)(hs2:(assignEach [.Name n2 p2] X.env).map (·.2)=assign (.Name n2 p2) X.env::(assignEach [] X.env).map (·.2):=by rfl) :
 DS X c (.Assign [.Tuple [.Name n1 p1,.Name n2 p2] kt pt] (.Subscript (.Name x px) e ps) pos) (vn6 S tbl i j f):=by
 obtain⟨a0,hm,vs,fr,hl,ht⟩:=hm;refine(ym2 (vg4 xg9 (zu2 (v:=.ref a0) hg hm rfl hd) he hpi) (xr0 (n:=2) hc (zz6 (yq1 (i:=i) hN hi h1 hf1) (zz6 (yq1 (i:=j) hN hj h2 hf2) xa5 hs2) hs1) hn hst) hs hw ha).imp λD σ H hI122=>?_
 obtain⟨ρ,st,R,ok,w⟩:=hI122;refine⟨ρ,st,R,ok,za8 (za4.mp w) (λd st1 q v H1 e1 ok1 z=>?_) λx st1 q H' e ok'=>q H' (e.f0 R) ok'⟩;split at q
 ·rename_i k
  split at q
  ·rename_i hk
   split at q
   ·rename_i p hp
    obtain⟨ρ1,p1',q⟩:=zb4.mp (za4.mp q);obtain⟨ρ2,p2',q⟩:=zb4.mp (za4.mp q);obtain⟨l1,rfl⟩:=zo8 p1';obtain⟨l2,rfl⟩:=zo8 p2';obtain⟨b,hb,frb⟩:=ht k.toNat p hp;have z':Is c.K (λb=>¬W.mv b) H1 (.int k) v:=z.toR;have R1:=(R.ext ok e1).setB l1 (show Is c.K (Av c σ ρ) H1 (.int p.1) (.int p.1) from Is.int_iff.mpr rfl);have R2:=R1.setB l2 (show Is c.K _ H1 (.int p.2) (.int p.2) from Is.int_iff.mpr rfl);refine⟨a0,vs,k,.ref b,rfl,Is.int_iff.mp z',fr.sq,?_,b,[.int p.1,.int p.2],rfl,frb.sq,rfl,_,_,rfl,_,_,rfl,rfl,?_⟩
    ·have:=xc5 hb
     rwa [show ((k.toNat:Nat):Int)=k by omega] at this
    ·exact q _ _ ((Ext.frm e1).trans (zg5.trans zg5)) ok1 R2
   ·exact q.elim
  ·exact q.elim
 ·exact q.elim
def ve1(d k x:D):Option D:=match d with
 | .dct (.non::ks) vs=>(ze1 k).bind λkk=>im (some ((wv3 kk ks vs).getD x))
 | _=>none
def vx3(S:Type)(f1 f2 f3:Fn S):Fn S:=λρ st=>(f1 ρ st).bind λd st1=>match d with
 | .dct (.non::ks) vs=>(f2 ρ st1).bind λk st2=>(f3 ρ st2).bind λx st3=>ww7 (ve1 (.dct (.non::ks) vs) k x) st3
 | _=>.bad
open H in
def wu0(hu:X.A.units+1<cLine)(ho:DE X c ga o fa)(he:DE X c gb e fb)(hf:DE X c gc f fc)(m:M2 X o "get" apos e f cpos):DE X c g (.Call (.Attribute o "get" apos) [e,f] [] cpos) (vx3 S fa fb fc):=
 (xz8 hu ho he hf m).imp λσ H Q hI44=>by
  obtain⟨ρ,st,R,ok,w⟩:=hI44;have w':=za4.mp w;refine⟨ρ,st,R,ok,za8 w' (λd st1 q v H1 e1 ok1 z=>?_) λx st1 q=>q⟩;split at q
  ·rename_i ks vs
   have z1:Is c.K (λb=>¬W.mv b) H1 (.dct (.non::ks) vs) v:=z.toR;obtain⟨a,us,ev,n,i1,hh⟩:=Is.dct_iff.mp z1;have isd:IsD H1 a:=by
    rcases hh with⟨kk,_,_,h⟩ | ⟨kk,_,_,h⟩
    ·exact .inl ⟨_,.inl h⟩
    ·exact .inr ⟨_,.inl h⟩
   refine⟨a,ev,isd,ρ,st1,R.ext ok e1,ok1,za8 (za4.mp q) (λk st2 q v2 H2 e2 ok2 z2=>?_) λx st2 q H2 e2 ok2=>q H2 (e1.trans e2) ok2⟩;have R2:=(R.ext ok e1).ext ok1 e2;refine⟨ρ,st2,R2,ok2,za8 (za4.mp q) (λx st3 q v3 H3 e3 ok3 z3=>?_) λx st3 q H3 e3 ok3=>q H3 ((e1.trans e2).trans e3) ok3⟩;obtain⟨dd,e4,q⟩:=zb4.mp q;have et:=(e1.trans e2).trans e3;have R3:=R2.ext ok2 e3;have y1:Is c.K (λb=>¬W.mv b) H3 (.dct (.non::ks) vs) v:=(z1.ext e2 ok1 λ_ n=>n).ext e3 ok2 λ_ n=>n
   have y2:Is c.K (λb=>¬W.mv b) H3 k v2:=z2.toR.ext e3 ok2;have y3:Is c.K (λb=>¬W.mv b) H3 x v3:=z3.toR;cases hk:ze1 k with
   | none=>unfold ve1 at e4;rw[hk] at e4;cases e4
   | some kk=>
     have e4:im (some ((wv3 kk ks vs).getD x))=some dd:=by unfold ve1 at e4;rw[hk] at e4;exact e4
     obtain⟨e5,im5⟩:=xb8 e4;obtain⟨a',o',ea,gd,hcase⟩:=wf7 hk y2 y1;rw[ev] at ea;have ea:a=a':=by cases ea;rfl
     subst ea;refine⟨o',gd,q _ H3 et ok3 ?_⟩;have y:Is c.K (λb=>¬W.mv b) H3 dd (o'.getD v3):=by
      rcases hcase with⟨h1,h2⟩ | ⟨d',v',h1,h2,h3⟩
      ·rw[h1] at e5;rw[h2]
       cases e5;exact y3
      ·rw[h1] at e5;rw[h2]
       cases e5;exact h3
     exact(New.val R3 (show New c H3 H3 dd _ from Is.ofImm im5 y) g).back et ok3
  ·exact q.elim
def vv4:D->D->Option D
 | .lst l,.int k=>if D.immL l=true/\-(2 ^ 63)<=k/\k<2 ^ 63/\l.length*k.toNat<=sizeLine then some (.lst (List.replicate k.toNat l).flatten) else none
 | _,_=>none
theorem wd8{K:PySem.W.Frag}{A:Addr->Prop}{H:Hp}{l:List D}{vs:List V}(h:IsL K A H l vs):∀k:Nat,IsL K A H (List.replicate k l).flatten (List.replicate k vs).flatten
 | 0=>IsL.nil.mpr rfl
 | k+1=>by
   rw[Bn0,Bn0,Ch0,Ch0];exact h.append (wd8 h k)
theorem xh4(h:D.immL l=true):∀k:Nat,D.immL (List.replicate k l).flatten=true
 | 0=>rfl
 | k+1=>by
   rw[Bn0,Ch0];exact zg9 h (xh4 h k)
open H in
def wq8:OpD c vq7 vv4:=by
 intro d1 d2 v1 v2 H st d Q ok h1 h2 e q;unfold vv4 at e;split at e
 ·rename_i l k
  split at e
  ·rename_i hc
   cases e;obtain⟨a,us,ea,n,s1,i3⟩:=Is.lst_iff.mp h1;refine⟨a,k,us,ea,Is.int_iff.mp h2,s1,hc.2.1,hc.2.2.1,by rw[<-i3.length];exact hc.2.2.2,λp hp=>?_⟩;exact q _ _ (Ext.laid hp) (zg7 ok hp) (New.lst ok hp (λ_ n=>n) (xh4 hc.1 _) (wd8 i3 _))
  ·cases e
 ·cases e
def vg8(a b:D):Option D:=(iOp vd7 (λi j=>.int (i*j)) a b).or (vv4 a b)
def yh8:OpR X (binaryOp .Mult) (λx y H Q=>rI vd7 (λi j=>.int (i*j)) x y H Q\/vq7 x y H Q):=yh9.or wq4
def yi0:OpD c (λx y H Q=>rI vd7 (λi j=>.int (i*j)) x y H Q\/vq7 x y H Q) vg8:=vk8.or wq8
theorem wp_sTab2{Q:Fl->S->Prop}{i j:Nat}{f:Fn S}{tbl:List (Int×Int)}:wpR (vn6 S tbl i j f ρ st) Q E↔wpR (f ρ st) (λd st1=>∃k p,d=.int k/\0<=k/\tbl[k.toNat]?=some p/\∃ρ1,put ρ i (.int p.1)=some ρ1/\∃ρ2,put ρ1 j (.int p.2)=some ρ2/\Q (.nx ρ2) st1) E:=wpB λd st1=>by
 cases d with
 | int k=>
   refine xb9 ?_;refine(xd6.trans ?_).trans exists_and_left.symm;refine and_congr Iff.rfl ?_;cases tbl[k.toNat]? with
   | none=>exact yc6
   | some p=>exact yc5 (yp1 λ_=>yp2)
 | _=>exact xu3 λb e=>by cases e
open H in
def wp_fGet{Q:D->S->Prop}{f1 f2' f3:Fn S}:wpR (vx3 S f1 f2' f3 ρ st) Q E↔wpR (f1 ρ st) (λd st1=>∃ks vs,d=.dct (.non::ks) vs/\wpR (f2' ρ st1) (λk st2=>wpR (f3 ρ st2) (λx st3=>wpR (ww7 (ve1 (.dct (.non::ks) vs) k x) st3) Q E) E) E) E:=by
 unfold vx3;rw[za4];refine iff_of_eq (congrArg (λz=>wpR (f1 ρ st) z E) (funext λd=>funext λst1=>propext ?_));by_cases hd:∃ks vs,d=.dct (.non::ks) vs
 ·obtain⟨ks,vs,rfl⟩:=hd
  show wpR ((f2' ρ st1).bind λk st2=>(f3 ρ st2).bind λx st3=>ww7 (ve1 (.dct (.non::ks) vs) k x) st3) Q E↔_;rw[za4];simp only[za4];exact⟨λq=>⟨ks,vs,rfl,q⟩,λ⟨ks',vs',e,q⟩=>by cases e;exact q⟩
 ·constructor
  ·intro q
   split at q
   ·rename_i ks vs
    exact absurd ⟨ks,vs,rfl⟩ hd
   ·exact q.elim
  ·rintro ⟨ks,vs,rfl,_⟩
   exact absurd ⟨ks,vs,rfl⟩ hd
end
theorem xy2{K:PySem.W.Frag}{a b0 b1 b2 b3:Addr}{p0 p1 p2 p3:Int×Int}{od od0 od1 od2 od3:Option Addr}{sl sl0 sl1 sl2 sl3:Array (Option Value)}{n n0 n1 n2 n3:Nat}{t0 t1 t2 t3 u0 u1 u2 u3:Tok}(h:K.lookup a=some ⟨.type "tuple",od,.seq #[.ref b0,.ref b1,.ref b2,.ref b3] n,sl⟩)(h0:K.lookup b0=some ⟨.type "tuple",od0,.seq #[.int p0.1 t0,.int p0.2 u0] n0,sl0⟩)(h1:K.lookup b1=some ⟨.type "tuple",od1,.seq #[.int p1.1 t1,.int p1.2 u1] n1,sl1⟩)(h2:K.lookup b2=some ⟨.type "tuple",od2,.seq #[.int p2.1 t2,.int p2.2 u2] n2,sl2⟩)(h3:K.lookup b3=some ⟨.type "tuple",od3,.seq #[.int p3.1 t3,.int p3.2 u3] n3,sl3⟩):vy8 K a [p0,p1,p2,p3]:=by
 have pr:∀{b:Addr} {p:Int×Int} {od:Option Addr} {sl:Array (Option Value)} {n:Nat} {t u:Tok},K.lookup b=some ⟨.type "tuple",od,.seq #[.int p.1 t,.int p.2 u] n,sl⟩->FrT K b [.int p.1,.int p.2]:=λ{b p od sl n t u} h=>
  ⟨_,_,_,h,rfl,rfl,by show 2<=sizeLine;decide,.cons ⟨t,rfl⟩ (.cons ⟨u,rfl⟩ .nil)⟩
 refine⟨[.ref b0,.ref b1,.ref b2,.ref b3],⟨_,_,_,h,rfl,rfl,by show 4<=sizeLine;decide,.cons rfl (.cons rfl (.cons rfl (.cons rfl .nil)))⟩,rfl,λi p hp=>?_⟩
 match i,hp with
 | 0,hp=>cases hp;exact⟨b0,rfl,pr h0⟩
 | 1,hp=>cases hp;exact⟨b1,rfl,pr h1⟩
 | 2,hp=>cases hp;exact⟨b2,rfl,pr h2⟩
 | 3,hp=>cases hp;exact⟨b3,rfl,pr h3⟩
 | i+4,hp=>simp at hp
end L2
namespace PySem
section
variable{prog:Program}{w:World}{A:Around}{E:Value->Shared->Prop}{s:Shared}
end
end PySem
namespace L2
def vz3(b:Nat)(Sq:Hp->List V->Prop):It:=
 ⟨λi H=>∃xs x,Sq H xs/\xs[i]?=some x,λi H v H'=>∃p x,H p=none/\v=.ref p/\H'=upd H p (.tup [.int (i+b:Nat),x])/\∀xs,Sq H xs->xs[i]?=some x,λi H=>∃xs,Sq H xs/\xs.length<=i⟩
open H in
def xk7{P:Program}{w:World}{K:PySem.W.Frag}{elts:List Expr}{x1}{pos:Pos}(b:Nat)(a e it:Addr):vj7 P w K (.Tuple elts x1 pos) (vz3 b λH xs=>H a=some (.lst xs)) [e,it] e (λi h=>e≠it/\(∃old,IsEnum h e it (i+b:Nat) old)/\h.IsListIter it a i) where
 mem:=by simp
 obj:=λi h st c hb=>by
  obtain⟨hne,⟨old,he⟩,o,ho,_,d⟩:=st;rcases Aj0.mp hb with z | hb
  ·subst z
   exact⟨_,he,λv z=>by
    have z':Data.fields _=Data.cell v:=z;cases z'⟩
  ·have z:c=it:=by simpa using hb
   subst z;exact⟨o,ho,λv z=>by rw[d] at z;cases z⟩
 keep:=λi h h' st k=>by
  obtain⟨hne,⟨old,he⟩,hi⟩:=st;exact⟨hne,⟨old,k e (by simp) _ he⟩,hi.at λo q=>k it (by simp) o q⟩
 item:=by
  intro X hP hw hK hc i A3 s σ H E I hf st hg;subst hP hw hK;obtain⟨xs,x,hq,hx⟩:=hg;obtain⟨hne,⟨old,he⟩,hi⟩:=st;obtain⟨its,rv,p,hz⟩:=I.list (SqL.of hq);obtain⟨u,hu,ru⟩:=rv.get hx;have hT:s.TypeIs (.ref e) "enumerate":=⟨_,he,rfl⟩;unfold pyNext;refine Aa1 (wpAny_attempt (wpAny_callSpecial?_slot (name:=Str.ofString "__next__") hT F.slot_enumerate_next (Ag1 F.slot_enumerate_next hT F.entry_enumerate_next (yx3 (T:=λh=>h.IsListIter it a (i+1)) he hne (λh h' t q=>t.at q) (λQ' hQ'=>wpAny_nextOf_list_item hi p.isList (x:=u) (by simpa using hu) hQ') λh' ho hi' ht hs kk=>Ab1 ?_) (F.args_enumerate_next_1 _))));refine⟨_,rfl,wpAny_letOwnedTupleGo_enum (s:={ s with heap:=h',toks:=s.toks+1 }) ho λh2 he2 sb2=>?_⟩;have sb2:Heap.SameBut e h' h2:=sb2;have pe:s.heap.objs.size≠e:=By0 (Heap.lt_size he);have k2:∀b o,b∉[e,it]->s.heap.get? b=some o->h2.get? b=some o:=λb o hb q=>by
   have h1:b≠e:=λz=>hb (by simp[z])
   have h3:b≠it:=λz=>hb (by simp[z])
   exact sb2.extBut b o h1 (kk b o h1 h3 q)
  have tt:IsTup h2 s.heap.objs.size [Value.int (i+b:Nat) s.toks,u].toArray/\NoD h2 s.heap.objs.size:=⟨⟨_,sb2.extBut _ _ pe ht,rfl,_,rfl⟩,⟨_,sb2.extBut _ _ pe ht,rfl⟩⟩;have nn:∀b∈[e,it],b≠s.heap.objs.size:=λb hb z=>by
   obtain⟨o1,ho1,_⟩:=id hi;rcases Aj0.mp hb with y | y
   ·exact pe (by rw[<-z,y])
   ·have y:b=it:=by simpa using y
    rw[z] at y;rw[<-y] at ho1;exact absurd (Heap.lt_size ho1) (Bc0 _)
  refine⟨.ref s.heap.objs.size,_,I.turnedT (p:=s.heap.objs.size) (vs:=[.int (i+b:Nat),x]) hf k2 (Al0 _) (.cons ⟨_,rfl⟩ (.cons ru .nil)) (by show 2<=sizeLine;decide) tt.1 tt.2,rfl,⟨_,x,I.hok.fresh (Al0 _),rfl,rfl,λys hy=>by rw[I.list_inj (SqL.of hy) (SqL.of hq)];exact hx⟩,⟨hne,⟨u,?_⟩,?_⟩,λb hb=>?_⟩
  ·have:((i+1+b:Nat):Int)=((i+b:Nat):Int)+1:=by omega
   rw[this];exact he2
  ·exact hi'.extBut sb2.extBut (Ne.symm hne)
  ·rw[za9 (nn b hb)];exact(hf b hb).1
 done:=by
  intro X hP hw hK hc i A3 s σ H E I hf st hg;subst hP hw hK;obtain⟨xs,hq,hx⟩:=hg;obtain⟨hne,⟨old,he⟩,hi⟩:=st;obtain⟨its,rv,p,hz⟩:=I.list (SqL.of hq);have hl:=rv.length;have hT:s.TypeIs (.ref e) "enumerate":=⟨_,he,rfl⟩;unfold pyNext;refine Aa1 (wpAny_attempt (wpAny_callSpecial?_slot (name:=Str.ofString "__next__") hT F.slot_enumerate_next (Ag1 F.slot_enumerate_next hT F.entry_enumerate_next ?_ (F.args_enumerate_next_1 _))));refine Aa1 (m:=field (.ref e) 2) (Ac1 he rfl (x:=.ref it) rfl ?_);refine Aa1 (wpAny_nextOf_list_end (I.ok.hd hc) hi p.isList (by simp;omega) λh' x he' hx'=>?_);obtain⟨o,ho,hcls⟩:=hx';refine Aa1 (wpAny_isInstance (T:="StopIteration") (b:=true) ⟨o,ho,hcls⟩ isSubtype_stop (Ab1 ⟨rfl,I.turnedF hf λb o hb q=>he' b o (λz=>hb (by simp[z])) q⟩))
 self:=λ_ _ _ _ _ st h=>let ⟨_,⟨_,he⟩,_⟩:=st;wpAny_pyIter_enum he h
section
variable{M:Model}{A:Around}{E:Value->Shared->Prop}{s:Shared}{env:Env}
end
section
variable{X:Cx}{elts:List Expr}{x1:Nat}{tpos:Pos}{S:Type}{W:Wd S}{c:Dx W}{i:Nat}
def ua6(b:Nat)(ta:TA):TI:=λσ H R=>ta σ H λvs H1=>∃a xs,vs=[.ref a]/\H1 a=some (.lst xs)/\R (vz3 b λH xs=>H a=some (.lst xs)) H1
theorem xz5(hg:Gl X "enumerate")(hm:X.mg "enumerate" = none)(ha:PA X [a] ta)(hs:starEach [a] X.env=[(false,eval a X.env)]:=by rfl):PI X (.Tuple elts x1 tpos) (.Call (.Name "enumerate" p) [a] [] pos) (ua6 0 ta):=by
 intro A3 s σ H R I h;refine Call_ (ya7 I hg hm boot_enumerate (PyProof.Rows.callWith_type1 (thn (ha pos A3 s σ H _ I h) λus s1 hI123=>?_) hs rfl));obtain⟨vs,H1,I1,r1,q1⟩:=hI123;obtain⟨l,xs,rfl,hq,q⟩:=q1;cases r1 with
 | cons r rr=>
   cases rr;cases r;obtain⟨its,rv,pt,hz⟩:=I1.list (SqL.of hq);refine call_enumerate_list pt.isList λh' he hi _ kk=>?_
   refine wpAny_pyIter_enum (s:={ s1 with heap:=h' }) he ?_;refine⟨s1.heap.objs.size+1,[s1.heap.objs.size+1,s1.heap.objs.size],_,_,H1,rfl,I1.kept (t':=s1.toks) kk,xk7 0 l _ _,⟨Nat.succ_ne_self _,⟨_,he⟩,hi⟩,λb hb=>?_,q⟩;have hb:s1.heap.objs.size<=b:=by
    rcases Aj0.mp hb with z | z
    ·rw[z];exact Nat.le_succ _
    ·exact Nat.le_of_eq (Ae0.mp z).symm
   exact I1.fpOk hb (I1.hok.fresh hb)
def vh8(b:Nat)(l:List D):List D:=(l.zipIdx b).map λp=>.tup [.int p.2,p.1]
def yi3(b:Nat):List D->Option (List D)
 | [.lst l]=>some (vh8 b l)
 | _=>none
theorem zz8{b:Nat}{i:Nat}(h:(vh8 b l)[i]?=some d):∃x,l[i]?=some x/\d=.tup [.int (i+b:Nat),x]:=by
 unfold vh8 at h;rw[Ag0,List.getElem?_zipIdx] at h;cases q:l[i]? with
 | none=>rw[q] at h;cases h
 | some x=>rw[q] at h;cases h;exact⟨x,rfl,by rw[Nat.add_comm]⟩
def zn4(b:Nat)(l:List D):(vh8 b l).length=l.length:=by unfold vh8;rw[Aa0,List.length_zipIdx]
def xm8{b:Nat}(n0:Av c σ ρ a)(s0:H1 a=some (.lst xs))(i1:IsL c.K (Av c σ ρ) H1 l xs):xj4 c σ ρ H1 (vz3 b λH xs=>H a=some (.lst xs)) (vh8 b l):=by
 intro c' hK' σ2 ρ2 H2 st2 k R2 ok2 j;have s2:H2 a=some (.lst xs):=(k.nod a _ n0 s0).2;have i2:IsL c.K (Av c' σ2 ρ2) H2 l xs:=i1.mono k;refine⟨λd hd=>?_,λhl=>⟨xs,s2,by rw[zn4] at hl;rw[<-i2.length];exact hl⟩⟩;obtain⟨y,hy,rfl⟩:=zz8 hd;obtain⟨v1,hv,iv⟩:=i2.get hy;refine⟨⟨xs,v1,s2,hv⟩,?_⟩;rintro x H3 ⟨pp,x',hpn,rfl,rfl,hx⟩;have:=hx xs s2;rw[hv] at this;cases this;have sm:wx4 H2 (upd H2 pp (.tup [.int (j+b:Nat),v1])):=λb o hb=>by rw[za9 (zb1 hb hpn)];exact hb
 refine⟨sm,Is.tup zb3 (IsL.cons.mpr ⟨_,_,rfl,Is.int_iff.mpr rfl,IsL.one ?_⟩)⟩;exact iv.mono (zj3 (λb o hb _=>sm b o hb) λb o a hb=>⟨a,sm b o hb⟩)
open H in
def wc4{b:Nat}(h:∀ta,PA X [a] ta->PI X (.Tuple elts x1 tpos) e (ua6 b ta))(ha:DB X c [a] f):DI X c (.Tuple elts x1 tpos) e (vc7 S (yi3 b) f):=
 (h _ ha).imp λσ H R hI45=>by
  obtain⟨ρ,st,R0,ok,w⟩:=hI45;refine⟨ρ,st,R0,ok,za8 (za4.mp w) (λl st1 q vs H1 e ok1 z=>?_) λx st1 q=>q⟩;obtain⟨m,e1,q⟩:=zb4.mp q;unfold yi3 at e1;split at e1
  ·rename_i l
   cases e1;obtain⟨v,r,e2,i2,i3⟩:=IsL.cons.mp z;obtain⟨a,xs,ea,n0,s0,i⟩:=Is.lst_iff.mp i2;rw[IsL.nil.mp i3,ea] at e2;exact⟨a,xs,e2,s0,q _ H1 e ok1 (xm8 n0 s0 i)⟩
  ·cases e1
def yg1(hg:Gl X "enumerate")(hm:X.mg "enumerate" = none)(ha:DB X c [a] f)(hs:starEach [a] X.env=[(false,eval a X.env)]:=by rfl):DI X c (.Tuple elts x1 tpos) (.Call (.Name "enumerate" p) [a] [] pos) (vc7 S (yi3 0) f):=
 wc4 (λ_ h=>xz5 hg hm h hs) ha
end
section
variable{X:Cx}{S:Type}{W:Wd S}{c:Dx W}{g ga gb gc:Gr}{a b:Expr}{fa fb fc:Fn S}{pos p2:Pos}{A3:List (Addr×Obj)}{σ:St}{H:Hp}{s:Shared}{A:Addr->Prop}{H1:Hp}{ρ:Rho}{st1:S}
end
section
variable{X:Cx}{S:Type}{W:Wd S}{c:Dx W}{i:Nat}
section
variable{Q:Fl->S->Prop}{E:Exn->S->Prop}{ρ:Rho}{st:S}
end
end
end L2
namespace PySem
section
variable{prog:Program}{w:World}{A:Around}{E:Value->Shared->Prop}{s:Shared}
end
end PySem
namespace L2
section
variable{X:Cx}{elts:List Expr}{x1:Nat}{tpos:Pos}{S:Type}{W:Wd S}{c:Dx W}{g ga:Gr}{H:Hp}{st:S}
end
end L2
namespace Ts
open PySem PyProof.Rows
section
variable{prog:Program}{w:World}{A:Around}{E:Value->Shared->Prop}{s:Shared}{κ:KeyKind}{knd:SortKind}
def Cmp(prog:Program)(w:World)(A:Around)(E:Value->Shared->Prop)(s:Shared)(κ:KeyKind)(knd:SortKind):Prop:=
 ∀(st:SortSt) (x y:Keyed) (a b:κ.α) (Q:Option Bool->SortSt->Prop),kindOf st=knd->κ.keyOf x.1=some a->κ.keyOf y.1=some b->Q (some (κ.blt a b)) st->wpS (model prog w) A E s (lt' x y) Q st
def ky(κ:KeyKind)(x:Keyed):κ.α:=(κ.keyOf x.1).getD κ.dflt
structure Bs(a₀:Array Keyed)(knd:SortKind)(P:Array (Nat×Nat×Nat))(st:SortSt):Prop where
 perm:(arrOf st).Perm a₀
 kind:kindOf st=knd
 fail:failedOf st=none
 pend:pendingOf st=P
variable{a₀:Array Keyed}{P:Array (Nat×Nat×Nat)}{st:SortSt}
def Bs.size(B:Bs a₀ knd P st):(arrOf st).size=a₀.size:=B.perm.size_eq
def Bs.arr(B:Bs a₀ knd P st){xs:Array Keyed}(h:xs.Perm (arrOf st)):Bs a₀ knd P (setArr st xs):=⟨h.trans B.perm,B.kind,B.fail,B.pend⟩
def Bs.at(B:Bs a₀ knd P st)(h0:KeysOf κ a₀){i:Nat}(hi:i<a₀.size):∃x a,(arrOf st)[i]?=some x/\κ.keyOf x.1=some a/\KK κ (arrOf st) i=a:=by
 have hi':i<(arrOf st).size:=by rw[B.size];exact hi
 have hm:(arrOf st)[i]∈a₀.toList:=(Array.perm_iff_toList_perm.mp B.perm).mem_iff.mp (Array.getElem_mem_toList hi');obtain⟨a,ha⟩:=h0 _ hm;have e:(arrOf st)[i]?=some (arrOf st)[i]:=Ci0 hi';refine⟨_,a,e,ha,?_⟩;unfold KK;rw[e];show (κ.keyOf (arrOf st)[i].1).getD κ.dflt=a;rw[ha];rfl
def Up(κ:KeyKind)(xs:Array Keyed)(lo hi:Nat):Prop:=∀i j,lo<=i->i<=j->j<hi->κ.kle (KK κ xs i) (KK κ xs j)
def Up.one{xs:Array Keyed}{lo hi:Nat}(h:hi<=lo+1):Up κ xs lo hi:=λi j h1 h2 h3=>by
 have:i=j:=by omega
 subst this;exact KeyOrd.kle_refl _
def Out(xs ys:Array Keyed)(lo hi:Nat):Prop:=∀i,(i<lo\/hi<=i)->ys[i]?=xs[i]?
def Out.refl{xs:Array Keyed}{lo hi:Nat}:Out xs xs lo hi:=λ_ _=>rfl
def Out.trans{xs ys zs:Array Keyed}{lo hi:Nat}(a:Out xs ys lo hi)(b:Out ys zs lo hi):Out xs zs lo hi:=λi h=>(b i h).trans (a i h)
end
section
variable{prog:Program}{w:World}{A:Around}{E:Value->Shared->Prop}{s:Shared}{κ:KeyKind}{knd:SortKind}{a₀:Array Keyed}{P:Array (Nat×Nat×Nat)}{st:SortSt}
end
local macro_rules
 | `(tactic| omega)=>`(tactic| omega +splitDisjunctions)
abbrev SM:=StateT SortSt Sem
def gal:Bool->Keyed->Array Keyed->Nat->Nat->Nat->SM (Option Nat):=sortPriv% PySem.Builtin.gallop
def far(left:Bool)(key:Keyed)(arr:Array Keyed)(base i:Nat):SM (Option Bool):=do
 let x <-elem' arr (base+i)
 if left then lt' x key else return (<-lt' key x).map (!·)
section
variable{prog:Program}{w:World}{A:Around}{E:Value->Shared->Prop}{s:Shared}{κ:KeyKind}{knd:SortKind}{st:SortSt}{left:Bool}{key:Keyed}{arr:Array Keyed}{base n:Nat}{f:Nat->Bool}
end
end Ts
namespace Ts
open PySem PyProof.Rows
def ue1(g:Nat):SM Unit:=(sortPriv% PySem.Builtin.setMinGallop) g
abbrev vj2(a b out:Array Keyed)(ia ib:Nat):Array Keyed:=out++a.extract ia a.size++b.extract ib b.size
section
variable{κ:KeyKind}{a b:Array Keyed}{out:List Keyed}{ia ib:Nat}
abbrev le(κ:KeyKind)(x y:Keyed):Prop:=κ.kle (ky κ x) (ky κ y)
def vh6{xs:Array Keyed}{i:Nat}(h:i<xs.size):KK κ xs i=ky κ xs[i]:=by
 unfold KK ky;rw[Ci0 h]
structure Mg(κ:KeyKind)(a b:Array Keyed)(out:List Keyed)(ia ib:Nat):Prop where
 perm:(out++(a.toList.drop ia++b.toList.drop ib)).Perm (a.toList++b.toList)
 up:out.Pairwise (le κ)
 la:∀x∈out,∀i,ia<=i->i<a.size->κ.kle (ky κ x) (KK κ a i)
 lb:∀x∈out,∀i,ib<=i->i<b.size->κ.kle (ky κ x) (KK κ b i)
def vf5(κ:KeyKind)(a b:Array Keyed)(r:List Keyed):Prop:=r.Perm (a.toList++b.toList)/\r.Pairwise (le κ)
def yz4{xs:Array Keyed}{i:Nat}(u:Up κ xs 0 xs.size):(xs.toList.drop i).Pairwise (le κ):=by
 rw[List.pairwise_iff_getElem];intro p q hp hq hpq;rw[List.length_drop,Ck0] at hp hq;have:=u (i+p) (i+q) (Bb0 _) (by omega) (by omega);rw[vh6 (by omega),vh6 (by omega)] at this;simpa [List.getElem_drop] using this
def xg4{xs:Array Keyed}{i:Nat}{x:Keyed}(h:x∈xs.toList.drop i):∃j,i<=j/\j<xs.size/\ky κ x=KK κ xs j:=by
 obtain⟨j,hj,e⟩:=List.getElem_of_mem h;rw[List.length_drop,Ck0] at hj;refine⟨i+j,by omega,by omega,?_⟩;rw[vh6 (by omega),<-e];simp[List.getElem_drop]
def Mg.doneB(m:Mg κ a b out ia ib)(ua:Up κ a 0 a.size)(h:b.size<=ib):vf5 κ a b (out++a.toList.drop ia++b.toList.drop ib):=by
 have hb:b.toList.drop ib=[]:=List.drop_eq_nil_of_le (by simpa using h);refine⟨by rw[Cb0];exact m.perm,?_⟩;rw[hb,Az0];refine Ca0.mpr ⟨m.up,yz4 ua,λx hx y hy=>?_⟩;obtain⟨j,h1,h2,e⟩:=xg4 (κ:=κ) hy;show κ.kle (ky κ x) (ky κ y);rw[e];exact m.la x hx j h1 h2
def Mg.doneA(m:Mg κ a b out ia ib)(ub:Up κ b 0 b.size)(h:a.size<=ia):vf5 κ a b (out++a.toList.drop ia++b.toList.drop ib):=by
 have ha:a.toList.drop ia=[]:=List.drop_eq_nil_of_le (by simpa using h);refine⟨by rw[Cb0];exact m.perm,?_⟩;rw[ha,Az0];refine Ca0.mpr ⟨m.up,yz4 ub,λx hx y hy=>?_⟩;obtain⟨j,h1,h2,e⟩:=xg4 (κ:=κ) hy;show κ.kle (ky κ x) (ky κ y);rw[e];exact m.lb x hx j h1 h2
end
section
variable{prog:Program}{w:World}{A:Around}{E:Value->Shared->Prop}{s:Shared}{κ:KeyKind}{knd:SortKind}{st:SortSt}{a b:Array Keyed}
structure vi2(st st':SortSt):Prop where
 arr:arrOf st'=arrOf st
 pend:pendingOf st'=pendingOf st
 fail:failedOf st'=failedOf st
 kind:kindOf st'=kindOf st
def vi2.refl:vi2 st st:=⟨rfl,rfl,rfl,rfl⟩
def yf9{xs:Array Keyed}{i j:Nat}(h:j<=xs.size):(xs.extract i j).toList=(xs.toList.drop i).take (j-i):=by
 simp[Array.toList_extract,List.extract_eq_drop_take]
structure Mid(κ:KeyKind)(a b:Array Keyed)(st:SortSt)(out:Array Keyed)(ia ib:Nat)(st':SortSt)(lo:Nat):Prop where
 m:Mg κ a b out.toList ia ib
 ha:ia+1<a.size
 hb:ib<b.size
 like:vi2 st st'
 far:lo<=ia+ib
def Mid.le{st:SortSt}{out:Array Keyed}{ia ib lo lo2:Nat}{st':SortSt}(M:Mid κ a b st out ia ib st' lo)(h:lo2<=lo):Mid κ a b st out ia ib st' lo2:=⟨M.m,M.ha,M.hb,M.like,Av0 h M.far⟩
structure Two(prog:Program)(w:World)(A:Around)(E:Value->Shared->Prop)(s:Shared)(κ:KeyKind)(knd:SortKind)(a b:Array Keyed)(st:SortSt):Prop where
 C:Cmp prog w A E s κ knd
 ka:KeysOf κ a
 kb:KeysOf κ b
 ua:Up κ a 0 a.size
 ub:Up κ b 0 b.size
 hl:∀j,j<b.size->κ.kle (KK κ b j) (KK κ a (a.size-1))
 hk:kindOf st=knd
abbrev vr8(κ:KeyKind)(a b:Array Keyed)(st:SortSt)(r:Array Keyed)(st':SortSt):Prop:=vi2 st st'/\vf5 κ a b r.toList
def yx5(out:Array Keyed)(ia ib:Nat):(vj2 a b out ia ib).toList=out.toList++a.toList.drop ia++b.toList.drop ib:=by
 unfold vj2;rw[Array.toList_append,Array.toList_append,yf9 (Al0 _),yf9 (Al0 _),List.take_of_length_le (by simp),List.take_of_length_le (by simp)]
section
variable{out:Array Keyed}{ia ib lo:Nat}{st':SortSt}(T:Two prog w A E s κ knd a b st)
include T
def Two.dB(m:Mg κ a b out.toList ia ib)(h:b.size<=ib)(l:vi2 st st'):vr8 κ a b st (vj2 a b out ia ib) st':=⟨l,by rw[yx5];exact m.doneB T.ua h⟩
def Two.dA(m:Mg κ a b out.toList ia ib)(h:a.size<=ia)(l:vi2 st st'):vr8 κ a b st (vj2 a b out ia ib) st':=⟨l,by rw[yx5];exact m.doneA T.ub h⟩
def Two.kind(l:vi2 st st'):kindOf st'=knd:=l.kind.trans T.hk
end
end
abbrev vb6(a b out:Array Keyed)(na nb:Nat):Array Keyed:=a.extract 0 na++b.extract 0 nb++out.reverse
abbrev ua7(a b out:Array Keyed)(na nb:Nat):Array Keyed:=b.extract 0 nb++a.extract 0 na++out.reverse
section
variable{κ:KeyKind}{a b:Array Keyed}{t:List Keyed}{na nb:Nat}
structure Mh(κ:KeyKind)(a b:Array Keyed)(t:List Keyed)(na nb:Nat):Prop where
 perm:((a.toList.take na++b.toList.take nb)++t).Perm (a.toList++b.toList)
 up:t.Pairwise (le κ)
 la:∀x∈t,∀i,i<na->κ.kle (KK κ a i) (ky κ x)
 lb:∀x∈t,∀i,i<nb->κ.kle (KK κ b i) (ky κ x)
def xo5{xs:Array Keyed}{i:Nat}(h:i<xs.size):xs.toList.take (i+1)=xs.toList.take i++[xs[i]]:=by
 rw[Ba0];simp[Ci0 h]
def yz3{xs:Array Keyed}{i:Nat}(u:Up κ xs 0 xs.size):(xs.toList.take i).Pairwise (le κ):=(yz4 (i:=0) u).sublist (List.take_sublist _ _)
def yf6{xs:Array Keyed}{i:Nat}{x:Keyed}(h:x∈xs.toList.take i):∃j,j<i/\j<xs.size/\ky κ x=KK κ xs j:=by
 obtain⟨j,hj,e⟩:=List.getElem_of_mem h;rw[Bf0,Ck0] at hj;refine⟨j,by omega,by omega,?_⟩;rw[vh6 (by omega),<-e];simp[List.getElem_take]
def Mh.doneB(m:Mh κ a b t na 0)(ua:Up κ a 0 a.size):vf5 κ a b (a.toList.take na++b.toList.take 0++t):=by
 refine⟨m.perm,?_⟩;rw[List.take_zero,Az0];refine Ca0.mpr ⟨yz3 ua,m.up,λx hx y hy=>?_⟩;obtain⟨j,h1,h2,e⟩:=yf6 (κ:=κ) hx;show κ.kle (ky κ x) (ky κ y);rw[e];exact m.la y hy j h1
def Mh.doneA(m:Mh κ a b t 0 nb)(ub:Up κ b 0 b.size):vf5 κ a b (a.toList.take 0++b.toList.take nb++t):=by
 refine⟨m.perm,?_⟩;rw[List.take_zero,List.nil_append];refine Ca0.mpr ⟨yz3 ub,m.up,λx hx y hy=>?_⟩;obtain⟨j,h1,h2,e⟩:=yf6 (κ:=κ) hx;show κ.kle (ky κ x) (ky κ y);rw[e];exact m.lb y hy j h1
def Mh.first(m:Mh κ a b t na 1)(ua:Up κ a 0 a.size)(hb:0<b.size)(hf:∀j,j<a.size->κ.kle (KK κ b 0) (KK κ a j)):vf5 κ a b (b.toList.take 1++a.toList.take na++t):=by
 have e:b.toList.take 1=[b[0]]:=by rw[xo5 hb];simp
 refine⟨?_,?_⟩
 ·refine List.Perm.trans (List.Perm.append_right _ List.perm_append_comm) m.perm
 ·rw[e,Cb0,List.singleton_append]
  refine List.pairwise_cons.mpr ⟨λy hy=>?_,Ca0.mpr ⟨yz3 ua,m.up,λx hx y hy=>?_⟩⟩
  ·show κ.kle (ky κ b[0]) (ky κ y)
   rw[<-vh6 hb];rcases Ay0.mp hy with hy | hy
   ·obtain⟨j,h1,h2,e⟩:=yf6 (κ:=κ) hy
    rw[e];exact hf j h2
   ·exact m.lb y hy 0 (by omega)
  ·obtain⟨j,h1,h2,e⟩:=yf6 (κ:=κ) hx
   show κ.kle (ky κ x) (ky κ y);rw[e];exact m.la y hy j h1
end
section
variable{prog:Program}{w:World}{A:Around}{E:Value->Shared->Prop}{s:Shared}{κ:KeyKind}{knd:SortKind}{st:SortSt}{a b:Array Keyed}
structure Hid(κ:KeyKind)(a b:Array Keyed)(st:SortSt)(na nb:Nat)(out:Array Keyed)(st':SortSt)(lo:Nat):Prop where
 m:Mh κ a b out.toList.reverse na nb
 ha:0<na
 hb:1<nb
 la:na<=a.size
 lb:nb<=b.size
 like:vi2 st st'
 far:na+nb+lo<=a.size+b.size
def Hid.le{st:SortSt}{out:Array Keyed}{na nb lo lo2:Nat}{st':SortSt}(M:Hid κ a b st na nb out st' lo)(h:lo2<=lo):Hid κ a b st na nb out st' lo2:=⟨M.m,M.ha,M.hb,M.la,M.lb,M.like,by have:=M.far;omega⟩
def yo0(out:Array Keyed){na nb:Nat}(ha:na<=a.size)(hb:nb<=b.size):(vb6 a b out na nb).toList=a.toList.take na++b.toList.take nb++out.toList.reverse:=by
 unfold vb6;rw[Array.toList_append,Array.toList_append,yf9 ha,yf9 hb,Array.toList_reverse];simp
structure Tw(prog:Program)(w:World)(A:Around)(E:Value->Shared->Prop)(s:Shared)(κ:KeyKind)(knd:SortKind)(a b:Array Keyed)(st:SortSt):Prop extends Two prog w A E s κ knd a b st where
 hf:∀j,j<a.size->κ.kle (KK κ b 0) (KK κ a j)
section
variable{out:Array Keyed}{na nb lo:Nat}{st':SortSt}(T:Tw prog w A E s κ knd a b st)
include T
def Tw.dB(m:Mh κ a b out.toList.reverse na nb)(ha:na<=a.size)(h:nb=0)(l:vi2 st st'):vr8 κ a b st (vb6 a b out na nb) st':=⟨l,by subst h;rw[yo0 _ ha (Bb0 _)];exact m.doneB T.ua⟩
def Tw.dA(m:Mh κ a b out.toList.reverse na nb)(hb:nb<=b.size)(h:na=0)(l:vi2 st st'):vr8 κ a b st (vb6 a b out na nb) st':=⟨l,by subst h;rw[yo0 _ (Bb0 _) hb];exact m.doneA T.ub⟩
end
section
variable{out:Array Keyed}{na nb lo:Nat}{st':SortSt}(T:Tw prog w A E s κ knd a b st)
include T
end
abbrev H7:=Option (Array Keyed)×Nat×Nat×Array Keyed×Nat×Nat×Nat
def H3(a b:Array Keyed)(na nb:Nat)(out:Array Keyed)(mg ca cb:Nat):SM (ForInStep H7):=do
 let x <-elem' a (na-1)
 if (na-1 == 0)=true then pure (ForInStep.done ((some (vb6 a b (out.push x) (na-1) nb),na-1,nb,out.push x,mg,ca,cb):H7))
 else if (decide (ca<7)&&decide (cb<7))=true then pure (ForInStep.done ((none,na-1,nb,out.push x,mg,ca,cb):H7)) else pure (ForInStep.yield ((none,na-1,nb,out.push x,mg,ca,cb):H7))
def H2(a b:Array Keyed)(na nb:Nat)(out:Array Keyed)(mg ca cb:Nat):SM (ForInStep H7):=do
 let y <-elem' b (nb-1)
 if (nb-1 == 1)=true then pure (ForInStep.done ((some (ua7 a b (out.push y) na (nb-1)),na,nb-1,out.push y,mg,ca,cb):H7))
 else do
  let x <-elem' a (na-1)
  let p <-gal true x b 0 (nb-1) (nb-1-1)
  match p with
  | some p=>
    if nb-1-p>0 then
     if (p == 1)=true then pure (ForInStep.done ((some (ua7 a b (out.push y++(b.extract p (nb-1)).reverse) na p),na,p,out.push y++(b.extract p (nb-1)).reverse,mg,ca,nb-1-p):H7))
     else if (p == 0)=true then pure (ForInStep.done ((some (vb6 a b (out.push y++(b.extract p (nb-1)).reverse) na p),na,p,out.push y++(b.extract p (nb-1)).reverse,mg,ca,nb-1-p):H7))
     else H3 a b na p (out.push y++(b.extract p (nb-1)).reverse) mg ca (nb-1-p)
    else H3 a b na (nb-1) (out.push y) mg ca (nb-1-p)
  | _=>pure (ForInStep.done ((some (vb6 a b (out.push y) na (nb-1)),na,nb-1,out.push y,mg,ca,cb):H7))
def H1(a b:Array Keyed)(na nb:Nat)(out:Array Keyed)(mg ca cb:Nat):SM (ForInStep H7):=do
 ue1 mg
 let y <-elem' b (nb-1)
 let p <-gal false y a 0 na (na-1)
 match p with
 | some p=>
   if na-p>0 then
    if (p == 0)=true then pure (ForInStep.done ((some (vb6 a b (out++(a.extract p na).reverse) p nb),p,nb,out++(a.extract p na).reverse,mg,na-p,cb):H7))
    else H2 a b p nb (out++(a.extract p na).reverse) mg (na-p) cb
   else H2 a b na nb out mg (na-p) cb
 | _=>pure (ForInStep.done ((some (vb6 a b out na nb),na,nb,out,mg,ca,cb):H7))
end
def back(sa:Nat)(l:List Keyed)(xs:Array Keyed):Array Keyed:=l.zipIdx.foldl (λu (p,j)=>u.setIfInBounds (sa+j) p) xs
section
variable{prog:Program}{w:World}{A:Around}{E:Value->Shared->Prop}{s:Shared}{κ:KeyKind}{knd:SortKind}{a₀:Array Keyed}{st:SortSt}
def wg2{xs ys:Array Keyed}{lo hi i:Nat}(o:Out xs ys lo hi)(h:i<lo\/hi<=i):KK κ ys i=KK κ xs i:=KK_congr (o i h)
def Up.out{xs ys:Array Keyed}{lo hi n:Nat}(u:Up κ xs 0 n)(o:Out xs ys lo hi)(h:n<=lo):Up κ ys 0 n:=λi j g1 g2 g3=>by
 rw[wg2 o (.inl (by omega)),wg2 o (.inl (by omega))];exact u i j g1 g2 g3
def vf8(κ:KeyKind)(a₀:Array Keyed)(knd:SortKind)(st:SortSt):Prop:=
 (∃pw,Bs a₀ knd #[(0,a₀.size,pw)] st/\Up κ (arrOf st) 0 a₀.size)\/
 ∃n1 n2 pw,0<n1/\0<n2/\n1+n2=a₀.size/\Bs a₀ knd #[(0,n1,pw),(n1,n2,0)] st/\Up κ (arrOf st) 0 n1/\Up κ (arrOf st) n1 a₀.size
def Bs.push{P:Array (Nat×Nat×Nat)}(B:Bs a₀ knd P st)(z:Nat×Nat×Nat):Bs a₀ knd (P.push z) (setPending st ((pendingOf st).push z)):=⟨B.perm,B.kind,B.fail,by show (pendingOf st).push z=_;rw[B.pend]⟩
end
open PySem PyProof PyProof.Rows
def vo6(h:Heap):Value->Option (Int×Int)
 | .ref a=>match h.get? a with
   | some o=>match o.data with
     | .seq xs _=>match xs.toList with
       | [.int x _,.int y _]=>some (x,y)
       | _=>none
     | _=>none
   | none=>none
 | _=>none
def vd3(h:Heap)(v:Value)(p:Int×Int):Prop:=∃a o n t u,v=.ref a/\h.get? a=some o/\o.cls=.type "tuple"/\o.data=.seq #[.int p.1 t,.int p.2 u] n
def vd3.key{h:Heap}{v:Value}{p:Int×Int}(z:vd3 h v p):vo6 h v=some p:=by
 obtain⟨a,o,n,t,u,rfl,g,_,d⟩:=z;simp[vo6,g,d]
section
variable{prog:Program}{w:World}{A:Around}{E:Value->Shared->Prop}{s:Shared}
end
end Ts
namespace L2
open PySem PySem.Spec PyProof PyProof.Rows Ts
abbrev P2:=Int×Int
section
variable{X:Cx}{S:Type}{W:Wd S}{c:Dx W}{g ga gb gc:Gr}{a b:Expr}{fa fb fc:Fn S}{pos p2:Pos}
end
end L2
namespace HT
open PySem PyProof PyProof.Rows
section
variable{prog:Program}{w:World}{A:Around}{E:Value->Shared->Prop}{s:Shared}
end
end HT
namespace L2
open PySem PySem.Spec PyProof PyProof.Rows
section
variable{X:Cx}{S:Type}{W:Wd S}{c:Dx W}{g ga gb gc:Gr}{a b:Expr}{fa fb fc:Fn S}{pos p2:Pos}
end
end L2
namespace HT
open PySem PyProof PyProof.Rows Ts
section
variable{prog:Program}{w:World}{A:Around}{R:Result->Shared->Prop}{I:Addr}{fp wr:List Addr}{n:Nat}{P:Nat->Value->Prop}{St:Nat->Heap->Prop}{base:Heap}{E:Value->Shared->Prop}{s:Shared}
abbrev uf5(base h:Heap):Prop:=∀b o,base.get? b=some o->h.get? b=some o
def vd3.tup{h:Heap}{v:Value}{p:Int×Int}(z:vd3 h v p):∃a items,v=.ref a/\IsTup h a items/\IntsAre items.toList [p.1,p.2]:=by
 obtain⟨a,o,n,t,u,rfl,g,c,d⟩:=z;exact⟨a,_,rfl,⟨o,g,c,n,d⟩,.cons _ _ (.cons _ _ .nil)⟩
def vd3.over(ov:uf5 h h')(z:vd3 h v p):vd3 h' v p:=by
 obtain⟨a,o,n,t,u,e,g,c,d⟩:=z;exact⟨a,o,n,t,u,e,ov _ _ g,c,d⟩
end
end HT
namespace L2
open PySem PySem.Spec PyProof PyProof.Rows Ts
section
variable{X:Cx}{S:Type}{W:Wd S}{c:Dx W}{g ga gb gc:Gr}{a b:Expr}{fa fb fc:Fn S}{pos p2:Pos}
end
def g0{α:Type}{a:α}{l:List α}:(a::l)[0]?=some a:=rfl
def gS{α:Type}{a:α}{l:List α}{i:Nat}:(a::l)[i+1]?=l[i]?:=rfl
def s0{α:Type}{a b:α}{l:List α}:(a::l).set 0 b=b::l:=rfl
def sS{α:Type}{a b:α}{l:List α}{i:Nat}:(a::l).set (i+1) b=a::l.set i b:=rfl
def lC{α:Type}{a:α}{l:List α}:(a::l).length=l.length+1:=rfl
def lN{α:Type}:([]:List α).length=0:=rfl
def rl1_{α:Type}{i:Nat}:([]:List α)[i]?=none:=rfl
def rl2_{α β:Type}{f:α->β}{a:α}{l:List α}:(a::l).map f=f a::l.map f:=rfl
def rl3_{α β:Type}{f:α->β}:([]:List α).map f=[]:=rfl
def rl4_{α β:Type}{a:α}{f:α->Option β}:(some a).bind f=f a:=rfl
def rl5_{α:Type}{a:α}{o:Option α}:(some a).or o=some a:=rfl
def rl6_{α:Type}{o:Option α}:(none:Option α).or o=o:=rfl
def rl7_{α:Type}{a:α}:List.replicate 0 a=[]:=rfl
def rl8_{α:Type}{a:α}{n:Nat}:List.replicate (n+1) a=a::List.replicate n a:=rfl
def rl9_{α:Type}{a:α}{l m:List α}:(a::l)++m=a::(l++m):=rfl
def rl0_{α:Type}{l:List α}:[]++l=l:=rfl
def EV_:(type_of% @D.bl.injEq)/\(type_of% @D.int.injEq)/\(type_of% @D.str.injEq)/\(type_of% @Nat.zero_add)/\(type_of% @if_true.{1})/\(type_of% @if_false.{1})/\(type_of% @Bool.and_true)/\(type_of% @Bool.true_and)/\(type_of% @Bool.and_self)/\(type_of% @Bool.false_eq_true)/\(type_of% @Option.some.injEq.{0})/\(type_of% @exists_eq_left'.{1})/\(type_of% @exists_eq_left.{1})/\(type_of% @exists_eq_right.{1})/\(type_of% @true_or)/\(type_of% @or_true)/\(type_of% @true_and)/\(type_of% @and_true)/\(type_of% @Bool.not_true)/\(type_of% @Bool.not_false):=
 ⟨@D.bl.injEq,@D.int.injEq,@D.str.injEq,@Nat.zero_add,@if_true.{1},@if_false.{1},@Bool.and_true,@Bool.true_and,@Bool.and_self,@Bool.false_eq_true,@Option.some.injEq.{0},@exists_eq_left'.{1},@exists_eq_left.{1},@exists_eq_right.{1},@true_or,@or_true,@true_and,@and_true,@Bool.not_true,@Bool.not_false⟩
section
variable{S:Type}{X:Cx}{W:Wd S}{c:Dx W}{g:Gr}{e:Expr}{es:List Expr}{o:D->D->Option D}{p q:Rho->Option D}{oA:List D->Option D}{qa:Rho->Option (List D)}{T:Bt}
def fP(S:Type)(p:Rho->Option D):Fn S:=λρ st=>ww7 (p ρ) st
def aP(S:Type)(q:Rho->Option (List D)):FnA S:=λρ st=>ww7 (q ρ) st
def tP(S:Type)(q:Rho->Option Bool):FnT S:=λρ st=>ww7 (q ρ) st
def vr(i:Nat):Rho->Option D:=λρ=>rd ρ i
def cn(d:D):Rho->Option D:=λ_=>some d
def o2(o:D->D->Option D)(p q:Rho->Option D):Rho->Option D:=λρ=>(p ρ).bind λa=>(q ρ).bind λb=>o a b
def nl:Rho->Option (List D):=λ_=>some []
def cs(p:Rho->Option D)(q:Rho->Option (List D)):Rho->Option (List D):=λρ=>(p ρ).bind λa=>(q ρ).bind λl=>some (a::l)
def o1(o:List D->Option D)(q:Rho->Option (List D)):Rho->Option D:=λρ=>(q ρ).bind o
def ti(T:Bt)(p:Rho->Option D):Rho->Option D:=λρ=>(p ρ).bind λd=>some (.bl (isI T d))
def tb(p:Rho->Option D):Rho->Option Bool:=λρ=>(p ρ).bind D.bool?
open H in
theorem ub4{o:D->D->Option D}{p q:Rho->Option D}:f2 S o (fP S p) (fP S q)=fP S (o2 o p q):=by
 funext ρ st;unfold f2 fP o2;cases p ρ with
 | none=>rfl
 | some a=>cases q ρ<;>rfl
open H in
theorem wm2{p:Rho->Option D}{q:Rho->Option (List D)}:wy2 S (fP S p) (aP S q)=aP S (cs p q):=by
 funext ρ st;unfold wy2 fP aP cs;cases p ρ with
 | none=>rfl
 | some a=>cases q ρ<;>rfl
open H in
def uf1{o:List D->Option D}{q:Rho->Option (List D)}:fA S o (aP S q)=fP S (o1 o q):=by
 funext ρ st;unfold fA fP aP o1;cases q ρ<;>rfl
open H in
def vx2{T:Bt}{p:Rho->Option D}:fIs S T (fP S p)=fP S (ti T p):=by
 funext ρ st;unfold fIs fP ti;cases p ρ<;>rfl
open H in
def uf0{p:Rho->Option D}:fB S (fP S p)=tP S (tb p):=by
 funext ρ st;unfold fB fP tP tb;cases p ρ<;>rfl
def wp_fP{p:Rho->Option D}{ρ:Rho}{st:S}{Q:D->S->Prop}{E:Exn->S->Prop}:wpR (fP S p ρ st) Q E↔wpR (ww7 (p ρ) st) Q E:=Iff.rfl
def wp_aP{p:Rho->Option (List D)}{ρ:Rho}{st:S}{Q:List D->S->Prop}{E:Exn->S->Prop}:wpR (aP S p ρ st) Q E↔wpR (ww7 (p ρ) st) Q E:=Iff.rfl
def wp_tP{p:Rho->Option Bool}{ρ:Rho}{st:S}{Q:Bool->S->Prop}{E:Exn->S->Prop}:wpR (tP S p ρ st) Q E↔wpR (ww7 (p ρ) st) Q E:=Iff.rfl
def boS{α β:Type}{a:α}{f:α->Option β}:(some a).bind f=f a:=rfl
def dbb{b:Bool}:D.bool? (.bl b)=some b:=rfl
def za3{i j pos}:DE X c g (.Constant (.int i) j pos) (fP S (cn (.int i))):=wt9
def ze2{x j pos}:DE X c g (.Constant (.str x) j pos) (fP S (cn (.str x))):=wt6
def zx7{i j pos}:DE X c g (.Constant (.bool i) j pos) (fP S (cn (.bl i))):=vy0
def zg2{j pos}:DE X c g (.Constant .none j pos) (fP S (cn .non)):=wt8
def za0{i:Nat}{x:Str}{pos:Pos}(h:PE X (.Name x pos) (vb2 i)):DE X c .R (.Name x pos) (fP S (vr i)):=wt5 h
def yg2{x:Str}{i:Int}{pos:Pos}(hc:∃t,X.mg x=some (.int i t))(hg:Gl X x)(hd:(x == ("__debug__" : Str))=false:=by decide):DE X c g (.Name x pos) (fP S (cn (.int i))):=wc5 hc hg hd
def za1:DA X c [] (aP S nl):=wu2
def g2_(h:DE X c g e (f2 S o (fP S p) (fP S q))):DE X c g e (fP S (o2 o p q)):=ub4▸h
def gA_(h:DE X c g e (fA S oA (aP S qa))):DE X c g e (fP S (o1 oA qa)):=uf1▸h
def gI_(h:DE X c g e (fIs S T (fP S p))):DE X c g e (fP S (ti T p)):=vx2▸h
def gC_(h:DA X c es (wy2 S (fP S p) (aP S qa))):DA X c es (aP S (cs p qa)):=wm2▸h
def gB_(h:DT X c e (fB S (fP S p))):DT X c e (tP S (tb p)):=uf0▸h
def gT_{e:Expr}(h:DT X c e (fB S (f2 S o (fP S p) (fP S q)))):DT X c e (tP S (tb (o2 o p q))):=gB_ (ub4▸h)
end
def wh1{S:Type}{F G:FnS S}{ρ:Rho}{st:S}{Q:Fl->S->Prop}{E:Exn->S->Prop}(h:∀P:Fl->S->Prop,(∀ρ1 st1,wpR (G ρ1 st1) Q E->P (.nx ρ1) st1)->(∀d st1,Q (.rt d) st1->P (.rt d) st1)->(∀r st1,Q (.bk r) st1->P (.bk r) st1)->(∀r st1,Q (.ct r) st1->P (.ct r) st1)->wpR (F ρ st) P E):wpR (vk4 S F G ρ st) Q E:=
 zb0.mpr (h _ (λ_ _ z=>z) (λ_ _ z=>z) (λ_ _ z=>z) (λ_ _ z=>z))
section
variable{X:Cx}{S:Type}{W:Wd S}{c:Dx W}{g:Gr}{e a b:Expr}{es:List Expr}{o:D->D->Option D}{p q:Rho->Option D}{qa:Rho->Option (List D)}{pos:Pos}{f fa fb:Fn S}{rr:FnA S}{ga gb gc:Gr}{fc:Fn S}{p2:Pos}{fk:Fn S}{ρ:Rho}{st:S}{Q:D->S->Prop}{E:Exn->S->Prop}
def wv0{x:Str}(h:DE X c .R (.Name x pos) (fP S p))(hr:DA X c es (aP S qa)):DA X c (.Name x pos::es) (aP S (cs p qa)):=gC_ (zh0 h hr)
def vc2{x:Str}(h:DE X c .R (.Name x pos) f)(hr:DA X c es rr):DA X c (.Name x pos::es) (wy2 S f rr):=zh0 h hr
def ww0{k:Const}{j}(h:DE X c .R (.Constant k j pos) (fP S p))(hr:DA X c es (aP S qa)):DA X c (.Constant k j pos::es) (aP S (cs p qa)):=gC_ (zh0 h hr)
def vi1{k:Const}{j}(h:DE X c .R (.Constant k j pos) f)(hr:DA X c es rr):DA X c (.Constant k j pos::es) (wy2 S f rr):=zh0 h hr
def wy5{a b:Expr}(h:DE X c .R (.Subscript a b pos) (fP S p))(hr:DA X c es (aP S qa)):DA X c (.Subscript a b pos::es) (aP S (cs p qa)):=gC_ (zh0 h hr)
def vi0{a b:Expr}(h:DE X c .R (.Subscript a b pos) f)(hr:DA X c es rr):DA X c (.Subscript a b pos::es) (wy2 S f rr):=zh0 h hr
def vo8{as:List Expr}{x1}(h:DE X c .R (.Tuple as x1 pos) (fP S p))(hr:DA X c es (aP S qa)):DA X c (.Tuple as x1 pos::es) (aP S (cs p qa)):=gC_ (zh0 h hr)
def ue9{as:List Expr}{x1}(h:DE X c .R (.Tuple as x1 pos) f)(hr:DA X c es rr):DA X c (.Tuple as x1 pos::es) (wy2 S f rr):=zh0 h hr
def ve9{a:Expr}{as:List Expr}{ks}(h:DE X c .R (.Call a as ks pos) (fP S p))(hr:DA X c es (aP S qa)):DA X c (.Call a as ks pos::es) (aP S (cs p qa)):=gC_ (zh0 h hr)
def ve7{a:Expr}{as:List Expr}{ks}(h:DE X c .R (.Call a as ks pos) f)(hr:DA X c es rr):DA X c (.Call a as ks pos::es) (wy2 S f rr):=zh0 h hr
def vf0{a b:Expr}{op}(h:DE X c .R (.BinOp a op b pos) (fP S p))(hr:DA X c es (aP S qa)):DA X c (.BinOp a op b pos::es) (aP S (cs p qa)):=gC_ (zh0 h hr)
def ve8{a b:Expr}{op}(h:DE X c .R (.BinOp a op b pos) f)(hr:DA X c es rr):DA X c (.BinOp a op b pos::es) (wy2 S f rr):=zh0 h hr
def vw9{a:Expr}{op}(h:DE X c .R (.UnaryOp op a pos) f)(hr:DA X c es rr):DA X c (.UnaryOp op a pos::es) (wy2 S f rr):=zh0 h hr
def vj1{a:Expr}{gs scope}(h:DE X c .R (.ListComp a gs scope pos) f)(hr:DA X c es rr):DA X c (.ListComp a gs scope pos::es) (wy2 S f rr):=zh0 h hr
def ub0{a:Expr}{ops bs}(h:DE X c .R (.Compare a ops bs pos) (fP S p))(hr:DA X c es (aP S qa)):DA X c (.Compare a ops bs pos::es) (aP S (cs p qa)):=gC_ (zh0 h hr)
def ua9{a:Expr}{ops bs}(h:DE X c .R (.Compare a ops bs pos) f)(hr:DA X c es rr):DA X c (.Compare a ops bs pos::es) (wy2 S f rr):=zh0 h hr
def gU_{x1}(h:DA X c es (aP S qa)):DE X c g (.Tuple es x1 pos) (fP S (o1 vb4 qa)):=gA_ (zq8 h)
def gL_(h:DA X c es (aP S qa)):DE X c g (.List es pos) (fP S (o1 ve0 qa)):=gA_ (yo4 h)
def gX_(h:c.K=X.K)(ha:DE X c .R a (fP S p))(hb:DE X c .R b (fP S q))(hs:yl2 b):DE X c g (.Subscript a b pos) (fP S (o2 oIx p q)):=g2_ (vp5 wf3 (vo4 h) ha hb hs)
def gY_(h:c.K=X.K)(ha:DE X c .R a fa)(hb:DE X c .R b fb)(hs:yl2 b):DE X c g (.Subscript a b pos) (f2 S oIx fa fb):=vp5 wf3 (vo4 h) ha hb hs
def gP_(h:c.K=X.K)(ha:DE X c .R a (fP S p))(hb:DE X c .R b (fP S q)):DE X c g (.BinOp a .Add b pos) (fP S (o2 ww9 p q)):=g2_ (wx5 xs0 (xs2 h) ha hb)
def gp_(h:c.K=X.K)(ha:DE X c .R a fa)(hb:DE X c .R b fb):DE X c g (.BinOp a .Add b pos) (f2 S ww9 fa fb):=wx5 xs0 (xs2 h) ha hb
end
def tJ:List TE->Str->TE
 | [],out=>λ_ H Q=>out.length<=sizeLine/\Q (.str out) H
 | t::ts,out=>λσ H Q=>t σ H λv H1=>∃y:Str,v=.str y/\y.length<=sizeLine/\(out++y).length<=sizeLine/\tJ ts (out++y) σ H1 Q
section
variable{X:Cx}{S:Type}{W:Wd S}{c:Dx W}{g ga:Gr}{tg:Expr}{prog:Program}{w:World}{A:Around}{E:Value->Shared->Prop}{s:Shared}
def PJ(X:Cx)(es:List Expr)(ts:List TE):Prop:=∀(out:Str) (A3:List (Addr×Obj)) (s:Shared) (σ:St) (H:Hp) (Q:VK),Inv X A3 σ H s->tJ ts out σ H Q->
 wpAny (model X.prog X.w) X.A (joinParts out (evalEach es X.env)) (EP X A3 σ Q) X.xe s
def wp5:PJ X [] []:=λout A3 s σ H Q I h=>joinParts_nil ⟨.str out,H,I.tok _,⟨_,rfl⟩,h.2⟩ h.1
def xq7(h:PE X e t)(hs:PJ X es ts):PJ X (e::es) (t::ts):=λout A3 s σ H Q I w=>by
 refine joinParts_cons (thn (h A3 s σ H _ I w) λu s1 hI124=>?_);obtain⟨v,H1,I1,r,y,ev,_,hz,q⟩:=hI124;subst ev;obtain⟨t',rfl⟩:=r;exact⟨hz,hs (out++y) A3 s1 σ H1 Q I1 q⟩
def xr2(h:PJ X (e1::e2::es) ts):PE X (.JoinedStr (e1::e2::es) pos) (tJ ts Str.empty):=λA3 s σ H Q I w=>JoinedStr_many (h Str.empty A3 s σ H Q I w)
end
section
variable{S:Type}{ρ:Rho}{st:S}{Q:D->S->Prop}{E:Exn->S->Prop}{out:Str}{f:Fn S}{fs:List (Fn S)}
end
open PySem PySem.Spec PyProof PyProof.Rows
section
variable{X:Cx}{S:Type}{W:Wd S}{c:Dx W}{i j:Nat}{ρ:Rho}{st:S}{Q:Fl->S->Prop}{E:Exn->S->Prop}{g:Gr}
theorem zs5:∀{l:List D} {d:D},D.immL l=true->d∈l->d.imm=true
 | [],_,_,h=>nomatch h
 | a::l,d,m,h=>by
   have m':a.imm=true/\D.immL l=true:=by simpa [D.immL] using m
   rcases Aj0.mp h with e | h
   ·rw[e];exact m'.1
   ·exact zs5 m'.2 h
end
section
variable{prog:Program}{w:World}{A:Around}{E:Value->Shared->Prop}{s:Shared}{X:Cx}{S:Type}{W:Wd S}{c:Dx W}
end
def ub9(h:Heap)(x T:Addr)(C:Value):Prop:=
 ∃(oe:Obj) (vs:Array Value) (a0:Value) (oT:Obj) (ts:Array Value),h.get? x=some oe/\oe.cls=C/\vs[0]?=some a0/\oe.data=.fields vs/\vs[1]?=some (.ref T)/\T≠x/\
  h.get? T=some oT/\oT.data=.fields ts/\ts[3]?=some .none
def ub9.of(t:h.TracedW B x C a0):∃T,B.get? T=none/\ub9 h x T C:=by
 obtain⟨oe,vs,T,oT,ts,h1,⟨h2,h3⟩,h4,h5,hB,h6,h7,h8,h9⟩:=t;exact⟨T,hB,oe,vs,a0,oT,ts,h1,h2,h3,h4,h5,h6,h7,h8,h9⟩
theorem ww4.has(x:ww4 P w H h a o):∃u,h.get? a=some u:=by
 cases o with
 | lst xs=>obtain⟨_,_,_,_,e⟩:=x;exact⟨_,e⟩
 | tup xs=>obtain⟨_,_,_,⟨_,e,_⟩,_⟩:=x;exact⟨_,e⟩
 | dK kvs=>obtain⟨_,_,_,_,_,_,_,e,_⟩:=x;exact⟨_,e⟩
 | dT kvs=>obtain⟨_,_,_,_,_,_,_,e,_⟩:=x;exact⟨_,e⟩
 | set S n=>obtain⟨_,_,_,_,e,_⟩:=x;exact⟨_,e⟩
 | ins C dx fs=>obtain⟨_,_,_,e,_⟩:=x;exact⟨_,e⟩
 | own y=>exact x.imp λ_ q=>q
 | xd fs=>obtain⟨_,⟨_,_,_,e,_⟩,_⟩:=x;exact⟨_,e⟩
 | rng lo hi=>obtain⟨_,_,_,e⟩:=x;exact⟨_,e⟩
 | frz ob u=>exact⟨_,x.1⟩
 | tbl ps=>exact⟨_,(show h.get? a=some _ from x)⟩
 | met f y=>exact⟨_,(show h.get? a=some _ from x)⟩
 | ext φ=>obtain⟨_,⟨_,e⟩,_⟩:=x;exact⟨_,e⟩
section
variable{X:Cx}{A3:List (Addr×Obj)}{σ:St}{H:Hp}{s:Shared}{h':Heap}
end
abbrev Cx.mark(X:Cx)(v:Value):Cx:={ X with A:=X.A.mark (some v),calm:=false,xe:=λ_ _=>False }
def Cx.Ok.mark{X:Cx}(ok:X.Ok)(v:Value):(X.mark v).Ok:=
 ⟨ok.mod,ok.kind,ok.glob,ok.blt,ok.above,ok.inj,ok.has,ok.cab,(λz=>by cases z),ok.frames,ok.stk,ok.exf,ok.bs,ok.bsz,ok.noex,ok.exfs,ok.funs,ok.frf⟩
section
variable{X:Cx}{A3:List (Addr×Obj)}{σ:St}{H:Hp}{s:Shared}{h':Heap}{v:Value}
def Inv.mark(I:Inv X A3 σ H s)(v:Value):Inv (X.mark v) A3 σ H s:=⟨I.ok.mark v,I.os,I.bare,I.base,I.loc,I.cell,I.free,I.freeC,I.pin,I.hok,I.len⟩
def Inv.unmark(ok:X.Ok)(I:Inv (X.mark v) A3 σ H s):Inv X A3 σ H s:=⟨ok,I.os,I.bare,I.base,I.loc,I.cell,I.free,I.freeC,I.pin,I.hok,I.len⟩
def Inv.pinE(I:Inv X A3 σ H s)(h1:s.heap.get? p.1=some p.2)(h2:H p.1=none)(h3:∃vs,p.2.data=.fields vs)(hst:X.stack=X.env::X.outer)(hfr:X.env.frame=some X.env.locals):Inv X (p::A3) σ H s:=by
 obtain⟨vs,d⟩:=h3;have nf:p.1∉frs X.stack:=λm=>by
  obtain⟨_,o,ho,hn⟩:=I.stack.mem m;rw[h1] at ho;cases ho;exact hn vs d
 refine I.pins_of λq hq=>?_
 rcases Aj0.mp hq with rfl | hq
 ·refine⟨h1,h2,λz=>nf ?_,λz=>nf ?_,λv z=>by rw[d] at z;cases z⟩
  ·rw[z,hst]
   unfold frs;rw[Bv0,hfr];exact Br0
  ·rw[hst]
   unfold frs;rw[Bv0,hfr];exact Bg0 _ z
 ·exact I.pin q (Am0 _ hq)
def Inv.unpin(I:Inv X (p::A3) σ H s):Inv X A3 σ H s:=I.pins_of λq hq=>I.pin q (Am0 _ (Bg0 _ hq))
def yt3{i:Nat}{n:Str}(I:Inv X A3 σ H s)(hN:X.N.Nodup)(hi:X.N[i]?=some n)(hl:X.env.kindOf n=some .local)(h:∀s',Inv X A3 (σ.set i none) H s'->Q () s'):wpAny M A (do bindName X.env n .none;unbindBehindTheSuite X.env n pos) Q E s:=by
 have hcls:(X.env.scope.kind == .class||(X.env.scope.kind == .module&&X.env.locals != X.env.globals))=false:=by rw[I.ok.kind];rfl
 have lc:Loc X.env.scope n:=.inl hl;refine Aa1 (wpAny_bindName (zh1 I hN hi lc (v:=.non) (u:=.none) rfl (λs1 I1=>?_) (.inr hl)));unfold unbindBehindTheSuite;refine wpAny_onRaise ?_;unfold unbindName;refine Aa1 (wpAny_point (Aa1 ?_));unfold deleteName;simp only[hl,hcls];rw[if_neg (by decide)];obtain⟨m,hn,hlk⟩:=id I1.loc;have hiσ:i<σ.length:=by rw[I.len];exact(Ac0.mp hi).1
 have hm:(m n).isSome=true:=by
  obtain⟨u,r,q⟩:=hlk i n .non hi (Bk0 hiσ) (by rcases lc with z | z;exact .inl z;exact .inr (.inl z));rcases q with⟨_,q⟩ | ⟨q,_⟩
  ·rw[q];rfl
  ·rw[hl] at q;rcases q with q | q<;>cases q
 refine Aa1 (wpAny_nsDel_keeps hn λh2 v2 hn2 hs2=>?_);rw[hm];simp only[if_true,Option.isSome_some,Bool.not_true,Bz0,if_false];refine Ab1 (wpAny_point (h _ ?_));have I2:Inv X A3 (σ.set i none) H s1:=I1.weak (by simp) λj v e=>by
  by_cases hj:j=i
  ·subst hj
   rw[Bk0 hiσ] at e;cases e
  ·rw[At0 (Ne.symm hj)] at e ⊢
   exact e
 have neL:∀b o,X.s₀.heap.get? b=some o->b≠X.env.locals:=λb o e=>Ar0 (Ap0 (Heap.lt_size e) I.ok.above)
 obtain⟨oL,_,_,hoL,_⟩:=id hn;refine⟨I2.ok,I2.os,I2.bare,⟨λb o e z hb hx=>(hs2.2 b (neL b o e)).trans (I2.base.keep b o e z hb hx),λb o e z hb hx=>?_,I2.base.free,λb o e hx=>?_,I2.base.tups,I2.base.frzs,I2.base.tbls⟩,⟨_,hn2,λj y v' e1 e2 e3=>?_⟩,λy c e=>?_,I2.free,I2.freeC,λp hp=>?_,λb ob e=>?_,I2.len⟩
 ·obtain⟨sl,e1⟩:=I2.base.slot b o e z hb hx
  exact⟨sl,(hs2.2 b (neL b o e)).trans e1⟩
 ·obtain⟨o',e1⟩:=I2.base.there b o e hx
  exact⟨o',(hs2.2 b (neL b o e)).trans e1⟩
 ·have hj:j≠i:=λz=>by
   subst z;rw[Bk0 hiσ] at e2;cases e2
  have hy:y≠n:=λz=>hj (yq4 hN e1 (z▸hi))
  rw[At0 (Ne.symm hj)] at e2;obtain⟨u',r',q⟩:=hlk j y v' e1 (by rw[At0 (Ne.symm hj)];exact e2) e3;refine⟨u',r',?_⟩;rcases q with⟨k,e⟩ | ⟨k,c,e,z⟩
  ·exact .inl ⟨k,by simp[hy,e]⟩
  ·exact .inr ⟨k,c,e,z.sameBut hs2 (I.cne y c e)⟩
 ·obtain⟨w',z⟩:=I2.cell y c e
  exact⟨w',z.sameBut hs2 (I.cne y c e)⟩
 ·obtain⟨e,z,ne,nf,d⟩:=I2.pin p hp
  exact⟨(hs2.2 p.1 ne).trans e,z,ne,nf,d⟩
 ·refine(I2.hok b ob e).stay (λc w' hc q=>(hs2.2 c ?_).trans q) (λ_ q=>q) λ_ _ q=>q
  rintro rfl;rcases hc with rfl | hc
  ·rw[I2.free] at e;cases e
  ·rw[I2.free] at hc;cases hc
def yn5{M:Model}{A:Around}{E:Value->Shared->Prop}{nm q nm0 q0:Str}{C N C0 N0:Addr}{bs bm bs0 bm0:List Value}{hd hd0:Bool}{sn sn0:List Str}{sub sub0:List Value}{ab ab0:Bool}{col col0:Option Bool}{dd dd0:Option Addr}{k0 k1 k2 k3 k5 l0 l1 l2 l3 l5:Option Value}{id1 id0:String}{h:Heap}{g:Array GenState}{d:Drawn}{t:Nat}{os:OsState}{e:Addr}{oe:Obj}{Q:Bool->Shared->Prop}(hC:h.get? C=some (excClassObj nm q C N bs bm hd sn sub ab col dd k0 k1 k2 k3 k5 id1))(hB:h.get? C0=some (excClassObj nm0 q0 C0 N0 bs0 bm0 hd0 sn0 sub0 ab0 col0 dd0 l0 l1 l2 l3 l5 id0))(he:h.get? e=some oe)(hc:oe.cls=.ref C)(hb:(Value.ref C0::bm0).contains (.type "BaseException")=true)(hin:(Value.ref C::bm).contains (.ref C0)=true)(hq:Q true ⟨h,g,d,t,os⟩) :
 wpAny M A (excMatches (.ref e) (.ref C0)) Q E ⟨h,g,d,t,os⟩:=by
 have f:=tc_notTuple;unfold excMatches;repeat (first
  | (with_reducible refine wpAny_loadPart_at he ?_;rw[hc])
  | with_reducible refine wpAny_loadPart_at hB ?_
  | with_reducible refine wpAny_loadPart_at hC ?_
  | (with_reducible refine wpAny_isSubtype_exc hB ?_;rw[hb])
  | (with_reducible refine wpAny_isSubtype_exc hC ?_;rw[hin])
  | wp_step)
 exact hq
end
def vm6(K:PySem.W.Frag)(C:Addr)(bm:List Value):Prop:=
 ∃(nm q:Str) (N:Addr) (bs:List Value) (hd:Bool) (sn:List Str) (sub:List Value) (ab:Bool) (col:Option Bool) (dd:Option Addr) (k0 k1 k2 k3 k5:Option Value) (id1:String),
  K.lookup C=some (excClassObj nm q C N bs bm hd sn sub ab col dd k0 k1 k2 k3 k5 id1)
section
variable{X:Cx}{CX:CXT}{k:Nat}{f:Addr}{fd:FuncData}{ps:List Str}{sp:Sp}{E:XK}{x:Str}{p pos:Pos}{e:Expr}{es:List Expr}{t:TA}{A3:List (Addr×Obj)}{σ:St}{H:Hp}{s:Shared}
open H in
theorem vy5(F:wy0 X.prog X.w X.K X.mg X.base CX k f fd ps sp)(hr:wv8 k X.A)(hg:Gl X x)(hm:X.mg x=some (.ref f))(hk:keepIn X.K (.ref f)=true)(hb:wz7 X.K fd ps [])(ha:PA X (e::es) t)(I:Inv X A3 σ H s)(h:t σ H λvs H1=>sp vs H1 Q E)(hno:∀e s',¬X.xe e s')(hdb:(x == ("__debug__" : Str))=false:=by decide)(he:starEach (e::es) X.env=(false,eval e X.env)::starEach es X.env:=by rfl)(hpl:(backTo pos (starEach es X.env)).any (·.1)=false:=by rfl) :
 wpAny (model X.prog X.w) X.A (eval (.Call (.Name x p) (e::es) [] pos) X.env) (EP X A3 σ Q) (λe s'=>∃H1 s1,Inv X A3 σ H1 s1/\CX X.stack H1 s1 E e s') s:=by
 refine wpAny_Call_Name_kw (zu9 I hg hm ?_ hdb);refine PySem.W.callWith_K (h₀:=X.base) I.ok.mod.kin hk (Ae1 (ha pos A3 s σ H _ I h) (λus s1 ⟨vs,H1,I1,r,q⟩=>⟨I1.kIn,?_⟩) λe s1 z=>(hno e s1 z).elim) he hpl;have hl:us.length=ps.length:=by rw[<-r.length];exact F.len _ _ _ _ q
 have bt:=hb s1 us I1.kIn (by rw[Az0];exact hl);rw[Az0] at bt;refine wpAny_call (codeAny_mono (F.run X.A X.stack s1 H1 ⟨us,[]⟩ us vs Q E hr I1.env0 bt r q) λr2 s2 hq=>?_);cases r2 with
 | error e=>exact⟨H1,s1,I1,hq⟩
 | ok fl=>
   cases fl with
   | ret u=>exact I1.after hq
   | next=>exact False.elim hq
   | brk=>exact False.elim hq
   | cont=>exact False.elim hq
end
structure va3(K:PySem.W.Frag)(C:Addr):Prop where
 ga:PySem.W.findIn K (.ref C) "__getattribute__" = some (some (.builtin "BaseException.__getattribute__"))
 gt:PySem.W.findIn K (.ref C) "__getattr__" = some none
 cl:PySem.W.findIn K (.ref C) "__class__" = some (some (.builtin "object.__class__"))
 sb:PySem.W.subIn K (.ref C) (.type "BaseException")=some true
 so:PySem.W.subIn K (.ref C) (.type "object")=some true
section
variable{prog:Program}{w:World}{A:Around}{E:Value->Shared->Prop}{h:Heap}{g:Array GenState}{d:Drawn}{t:Nat}{os:OsState}{a C:Addr}{o:Obj}{K:PySem.W.Frag}
def wm7(L:va3 K C)(X:K.In h)(hx:h.get? a=some o)(hc:o.cls=.ref C)(hq:R (.ok (.ret (.ref C))) ⟨h,g,d,t,os⟩) :
 codeAny (model prog w) A (.call (.builtin "getset_descriptor.__get__") ⟨[.builtin "object.__class__",.ref a,.ref C],[]⟩) R ⟨h,g,d,t,os⟩:=by
 have ht:(⟨h,g,d,t,os⟩:Shared).TypeIs (.builtin "object.__class__") "getset_descriptor":=F.typeOf_object_class;have lo:=PySem.W.looks_subIn (M:=model prog w) X L.so;refine codeAny_call_builtin F.slot_gs_get.plain F.entry_gs_get (F.slot_gs_get.check _ _ _ _ _ _ _ _ ht (F.args_gs_get _ _ _) ?_);repeat (any_goals (first
  | assumption
  | (with_reducible refine wpAny_loadPart_at hx ?_;rw[hc])
  | (rw[F.owner_object_class])
  | with_reducible refine lo.at ?_
  | wp_step))
 refine⟨Code.quiet_builtin _ (by decide +kernel),codeAny_builtin F.entry_object_class ?_⟩;repeat (any_goals (first
  | assumption
  | (with_reducible refine wpAny_loadPart_at hx ?_;rw[hc])
  | wp_step))
def xx4(L:va3 K C)(X:K.In h)(hx:h.get? a=some o)(hc:o.cls=.ref C)(hq:Q (.done (.ret (.ref C))) ⟨h,g,d,t,os⟩) :
 wpAny (model prog w) A (Builtin.«object.__getattribute__» ⟨[.ref a,.str "__class__" tk],[]⟩) Q E ⟨h,g,d,t,os⟩:=by
 have ht:(⟨h,g,d,t,os⟩:Shared).TypeIs (.builtin "object.__class__") "getset_descriptor":=F.typeOf_object_class;have f5:=F.typeOf_object_class;have f6:=F.slot_gs_get.lookup;have f7:=F.slot_gs_set.lookup;have lc:=PySem.W.looks_findIn (M:=model prog w) X L.cl;repeat (any_goals (first
  | assumption
  | (with_reducible refine wpAny_loadPart_at hx ?_;rw[hc])
  | with_reducible refine lc.at ?_
  | wp_step))
 refine wm7 L X hx hc ?_;repeat (any_goals (first | assumption | wp_step))
def xd0(L:va3 K C)(X:K.In h)(hx:h.get? a=some o)(hc:o.cls=.ref C)(hq:Q () ⟨h,g,d,t,os⟩) :
 wpAny M A (checkBuiltinCall "BaseException.__getattribute__" ⟨[.ref a,nv],[]⟩) Q E ⟨h,g,d,t,os⟩:=by
 have k1:builtinKind "BaseException.__getattribute__" = some .slot:=by decide +kernel
 have k2:splitId "BaseException.__getattribute__" = some ("BaseException","__getattribute__"):=by decide +kernel
 have k3:=F.args_bexc_ga (.ref a) nv;have ls:=PySem.W.looks_subIn (M:=M) X L.sb;simp only[checkBuiltinCall,k1,k2];refine Aa1 ?_;unfold isInstance;repeat (first
  | (with_reducible refine wpAny_loadPart_at hx ?_;rw[hc])
  | with_reducible refine ls.at ?_
  | wp_step)
 exact hq
def wg7(L:va3 K C)(X:K.In h)(hx:h.get? a=some o)(hc:o.cls=.ref C)(hq:R (.ok (.ret (.ref C))) ⟨h,g,d,t,os⟩) :
 codeAny (model prog w) A (.call (.builtin "BaseException.__getattribute__") ⟨[.ref a,.str "__class__" tk],[]⟩) R ⟨h,g,d,t,os⟩:=
 codeAny_call_builtin F.excAttr_ValueError.ga.plain F.entry_bexc_ga (xd0 L X hx hc (xx4 L X hx hc hq))
def vs5(L:va3 K C)(X:K.In h)(hx:h.get? a=some o)(hc:o.cls=.ref C)(hq:Q (.ref C) ⟨h,g,d,t,os⟩) :
 wpAny (model prog w) A (getAttrBy (.ref a) (.str "__class__" tk) false) Q E ⟨h,g,d,t,os⟩:=by
 have f3:=F.excAttr_ValueError.ga.bind (.ref a);have x0:(false&&onTheHeap (Value.builtin "BaseException.__getattribute__"))=false:=rfl;have x2:(Value.builtin "BaseException.__getattribute__" == Value.builtin "object.__getattribute__")=false:=by decide +kernel
 have x1:(onTheHeap (Value.ref C)&&Value.builtin "BaseException.__getattribute__" == Value.builtin "object.__getattribute__")=false:=by rw[x2];rfl
 have la:=PySem.W.looks_findIn (M:=model prog w) X L.ga;have lt:=PySem.W.looks_findIn (M:=model prog w) X L.gt;repeat (any_goals (first
  | assumption
  | (with_reducible refine wpAny_loadPart_at hx ?_;rw[hc])
  | with_reducible refine la.at ?_
  | with_reducible refine lt.at ?_
  | wp_step))
 refine wg7 L X hx hc ?_;repeat (any_goals (first | assumption | wp_step))
def wg8(L:va3 K C)(X:K.In h)(hx:h.get? a=some o)(hc:o.cls=.ref C)(hq:Q (some (.ref C)) ⟨h,g,d,t+1,os⟩) :
 wpAny (model prog w) A (getAttr? (.ref a) "__class__") Q E ⟨h,g,d,t,os⟩:=by
 unfold getAttr? getAttrBy?;repeat (any_goals (first
  | assumption
  | with_reducible apply vs5 L X hx hc
  | wp_step))
def xg7(L:va3 K C)(k:vm6 K C bm):PySem.W.KitX K (.ref a) (.ref C) (λh=>∃o,h.get? a=some o/\o.cls=.ref C) where
 ty:=λ_ _ _ ⟨o,h1,h2⟩=>h2▸(PySem.W.Looks.ld h1).andThen .now
 it:=λ_ _ X _=>by
  obtain⟨nm,q,N,bs,hd,sn,sub,ab,col,dd,c0,c1,c2,c3,c5,id1,hC⟩:=k;intro A' Q' E' s' kk z;unfold isType loadHead;exact Aa1 (wpAny_loadPart (kk _ _ (X _ _ hC)) (Ab1 z))
 ne:=λh tp dd its n sl X ht=>Bool.eq_false_iff.mpr λz=>by
  obtain⟨nm,q,N,bs,hd,sn,sub,ab,col,dd,c0,c1,c2,c3,c5,id1,hC⟩:=k;have e:C=tp:=Value.ref.inj (beq_iff_eq.mp z);subst e;have y:=congrArg (λz=>z.map λo:Obj=>o.cls) ((X _ _ hC).symm.trans ht);simp[excClassObj] at y
 ca:=λ{_ _ _ _ _ s} X ⟨o,h1,h2⟩ z=>by
  obtain⟨h,g,d,t,os⟩:=s;exact wg8 L X h1 h2 z
end
abbrev bmV:List Value:=[.type "ValueError",.type "Exception",.type "BaseException",.type "object"]
section
variable{X:Cx}{E:XK}{C:Addr}{n:Str}{P:Program}{w:World}{K:PySem.W.Frag}{mg:Str->Option Value}{base:Heap}
end
abbrev Cx.pinned(X:Cx)(p:Addr×Obj):Cx:={ X with pn:=p::X.pn }
section
variable{X:Cx}{p:Addr×Obj}{A3:List (Addr×Obj)}{σ:St}{H:Hp}{s:Shared}
def Cx.Ok.toP(ok:X.Ok):(X.pinned p).Ok:=⟨ok.mod,ok.kind,ok.glob,ok.blt,ok.above,ok.inj,ok.has,ok.cab,ok.hd,ok.frames,ok.stk,ok.exf,ok.bs,ok.bsz,ok.noex,ok.exfs,ok.funs,ok.frf⟩
def Cx.Ok.ofP(ok:(X.pinned p).Ok):X.Ok:=⟨ok.mod,ok.kind,ok.glob,ok.blt,ok.above,ok.inj,ok.has,ok.cab,ok.hd,ok.frames,ok.stk,ok.exf,ok.bs,ok.bsz,ok.noex,ok.exfs,ok.funs,ok.frf⟩
def Inv.toP(I:Inv X (p::A3) σ H s):Inv (X.pinned p) A3 σ H s:=⟨I.ok.toP,I.os,I.bare,I.base,I.loc,I.cell,I.free,I.freeC,λq hq=>I.pin q (by
 simp only[Ay0,Aj0] at hq ⊢;rcases hq with (h | h) | h
 ·exact .inr (.inl h)
 ·exact .inl h
 ·exact .inr (.inr h)),I.hok,I.len⟩
def Inv.ofP(I:Inv (X.pinned p) A3 σ H s):Inv X A3 σ H s:=⟨I.ok.ofP,I.os,I.bare,I.base,I.loc,I.cell,I.free,I.freeC,λq hq=>I.pin q (by
 simp only[Ay0,Aj0] at hq ⊢;rcases hq with h | h
 ·exact .inl (.inr h)
 ·exact .inr h),I.hok,I.len⟩
open H in
theorem SP.ofP{D:vf8}{f:Flow}{s':Shared}(h:SP (X.pinned p) A3 D f s'):SP X A3 D f s':=by
 cases f with
 | next=>obtain⟨σ',H',I,q⟩:=h;exact⟨σ',H',I.ofP,q⟩
 | brk=>obtain⟨σ',H',I,q⟩:=h;exact⟨σ',H',I.ofP,q⟩
 | cont=>obtain⟨σ',H',I,q⟩:=h;exact⟨σ',H',I.ofP,q⟩
 | ret u=>obtain⟨v,σ',H',I,r,q⟩:=h;exact⟨v,σ',H',I.ofP,r,q⟩
def xt7{y C:Addr}{oe:Obj}{bm:List Value}(hp:(y,oe)∈X.pn)(hc:oe.cls=.ref C)(L:va3 X.K C)(k:vm6 X.K C bm) :
 wy3 X (.builtin "isinstance") (λvs H Q=>∃cv c b,vs=[.ref y,cv]/\(∀u,wv5 cv u->u=c)/\PySem.W.kitOne X.K (.ref C) c=some b/\Q (.bl b) H):=by
 intro A3 s σ H xs us Q I r h;obtain⟨cv,c,b,rfl,hu,e,q⟩:=h;obtain⟨u,w',rfl,r1,r2⟩:=vc3 r;obtain rfl:u=.ref y:=r1;obtain rfl:=hu _ r2;exact PySem.W.kia_one (xg7 L k) I.kIn ⟨oe,(I.pin _ (Bd0 _ hp)).1,hc⟩ e (λz=>nomatch z) λtk=>⟨.bl b,H,I.tok tk,rfl,q⟩
def wk4{y C:Addr}{oe:Obj}{bm:List Value}(hp:(y,oe)∈X.pn)(hc:oe.cls=.ref C)(L:va3 X.K C)(k:vm6 X.K C bm) :
 wy3 X (.builtin "isinstance") (λvs H Q=>∃(tp:Addr) (cs:List Addr) (b:Bool),vs=[.ref y,.ref tp]/\H tp=some (.tup (cs.map V.ref))/\PySem.W.kitAny X.K (.ref C) (cs.map Value.ref)=some b/\Q (.bl b) H):=by
 intro A3 s σ H xs us Q I r h;obtain⟨tp,cs,b,rfl,ht,e,q⟩:=h;obtain⟨u,w',rfl,r1,r2⟩:=vc3 r;obtain rfl:u=.ref y:=r1;obtain rfl:w'=.ref tp:=r2;obtain⟨hz,its,rv,⟨o,h1,h2,n,h3⟩,_⟩:=(show ww4 X.prog X.w H s.heap tp (.tup (cs.map V.ref)) from I.hok tp _ ht);have hi:its=cs.map Value.ref:=by
  clear e ht h1 h2 h3 hz;induction cs generalizing its with
  | nil=>cases rv;rfl
  | cons a cs ih=>
    cases rv with
    | cons z zs=>rw[ih _ zs];obtain rfl:=z;rfl
 subst hi;obtain⟨oc,od,odt,osl⟩:=o;dsimp only at h2 h3;subst h2 h3;exact PySem.W.kia_tup (xg7 L k) I.kIn ⟨oe,(I.pin _ (Bd0 _ hp)).1,hc⟩ h1 e (λz=>nomatch z) λtk=>⟨.bl b,H,I.tok tk,rfl,q⟩
open H in
theorem yt6{st:Stmt}{wx2:List Stmt}{t:TS}{σ1:St}{H1:Hp}{R:Flow->Shared->Prop}(h:PS X st t)(I:Inv X A3 σ H s)(ht:t { nx:=λσ' H'=>σ'=σ1/\H'=H1,rt:=λ_ _=>False } σ H)(k:∀s',Inv X A3 σ1 H1 s'->wpAny (model X.prog X.w) X.A (execs wx2 X.env) R X.xe s'):wpAny (model X.prog X.w) X.A (execs (st::wx2) X.env) R X.xe s:=by
 refine wpAny_execs_cons (thn (h A3 s σ H _ I ht) λf s1 q=>?_);cases f with
 | next=>
   obtain⟨σ',H',I',rfl,rfl⟩:=q;exact k s1 I'
 | ret v=>obtain⟨_,_,_,_,_,z⟩:=q;exact z.elim
 | brk=>obtain⟨_,_,_,z⟩:=q;exact z.elim
 | cont=>obtain⟨_,_,_,z⟩:=q;exact z.elim
end
open PySem.SeqAt
section
variable{X:Cx}
variable{S:Type}{W:Wd S}{c:Dx W}
end
abbrev wn6(h:Heap)(vs:List Value):Heap:=h.push { cls:=.type "tuple",data:=.seq vs.toArray }
abbrev zx6(h:Heap)(C:Addr)(vs:List Value):Heap:=(wn6 h vs).push { cls:=.ref C,data:=.fields #[.ref h.objs.size,.none,.none,.none,.bool false,.none] }
section
variable{prog:Program}{w:World}{A:Around}{E:Value->Shared->Prop}{h:Heap}{g:Array GenState}{d:Drawn}{t:Nat}{os:OsState}{nm q:Str}{C N f:Addr}{bs bm bmB:List Value}{hd:Bool}{sn:List Str}{sub:List Value}{ab:Bool}{col:Option Bool}{dd:Option Addr}{k0 k1 k2 k3 k5:Option Value}{B newId initId:String}{a dx:Addr}{o:Obj}{K:PySem.W.Frag}
open H in
theorem yp4(F:ExcBaseFacts B newId initId bmB)(T:OwnTail h bmB bm)(hC:h.get? C=some (excClassObj nm q C N bs bm hd sn sub ab col dd k0 k1 k2 k3 k5 newId))(hn:h.Ns N mN)(hi:mN "__init__" = some (.ref f))(hl:vs.length<=sizeLine)(hf:h.get? f=some of)(hfc:of.cls=.type "function")(hq:codeAny (model prog w) A (.call (.ref f) ⟨.ref (h.objs.size+1)::vs,[]⟩) (λr s'=>match r with
  | .ok (.ret v)=>v=.none/\Q (.done (.ret (.ref (h.objs.size+1)))) s'
  | .ok _=>False
  | .error e=>E e s') ⟨zx6 h C vs,g,d,t,os⟩):wpAny (model prog w) A (Builtin.«type.__call__» ⟨.ref C::vs,[]⟩) Q E ⟨h,g,d,t,os⟩:=by
 repeat (first
  | with_reducible refine wpAny_loadPart_at hC ?_
  | with_reducible refine wpAny_madeBy_exc hC ?_
  | wp_step)
 refine codeAny_call_builtin_code (Code.quiet_builtin _ F.quiet) (wpAny_check_new_subT F T hC (codeAny_exc_new_subT F T hC ?_ hl));have kp:∀b o,h.get? b=some o->(zx6 h C vs).get? b=some o:=λb o e=>Ab0 _ (Ab0 _ e)
 have hn1:(zx6 h C vs).Ns N mN:=hn.keeps kp;have he:(zx6 h C vs).get? (h.objs.size+1)=some { cls:=.ref C,data:=.fields #[.ref h.objs.size,.none,.none,.none,.bool false,.none] }:=by heap_get
 have hself:(Value.ref C::bm).contains (.ref C)=true:=by simp
 have T1:=T.keeps kp;have hC1:=kp _ _ hC;show wpAny _ _ _ _ _ _;unfold isInstance;repeat (first
  | with_reducible refine wpAny_loadPart_at he ?_
  | (with_reducible refine wpAny_isSubtype_exc hC1 ?_;rw[hself])
  | wp_step)
 show wpAny _ _ (typeLookup (.ref C) _) _ _ _;refine wpAny_typeLookup_tail hC1 hn1 T1 F.mroIs F.init.lookup ?_;rw[hi];refine wpAny_holding (Aa1 (wpAny_bindSpecial_def (kp _ _ hf) hfc ?_));refine Aa1 (wpAny_call (codeAny_mono hq λr s' z=>?_));cases r with
 | error e=>exact z
 | ok fl=>
   cases fl with
   | ret v=>
     obtain⟨rfl,z⟩:=z;refine Ab1 ?_;exact Ab1 z
   | next=>exact z.elim
   | brk=>exact z.elim
   | cont=>exact z.elim
def wc9(F:ExcBaseFacts B newId initId bmB)(T:OwnTail h bmB bm)(hC:h.get? C=some (excClassObj nm q C N bs bm hd sn sub ab col dd k0 k1 k2 k3 k5 newId))(hn:h.Ns N mN)(hi:mN "__init__" = some (.ref f))(hl:vs.length<=sizeLine)(hf:h.get? f=some of)(hfc:of.cls=.type "function")(hq:codeAny (model prog w) (A.under (.builtin "type.__call__" ⟨.ref C::vs,[]⟩)) (.call (.ref f) ⟨.ref (h.objs.size+1)::vs,[]⟩) (λr s'=>match r with
  | .ok (.ret v)=>v=.none/\Q (.ref (h.objs.size+1)) s'
  | .ok _=>False
  | .error e=>E e s') ⟨zx6 h C vs,g,d,t,os⟩):wpAny (model prog w) A (call (.ref C) vs) Q E ⟨h,g,d,t,os⟩:=by
 have z1:=tc_lookup;have z2:=tc_bind (.ref C);have z3:(⟨h,g,d,t,os⟩:Shared).TypeIs (.ref C) "type":=⟨_,hC,rfl⟩;refine wpAny_call (codeAny_of_tree ?_);show wpAny _ _ (callAny (.ref C) _) _ _ _;repeat (any_goals (first
  | assumption
  | with_reducible refine wpAny_loadPart_at hC ?_
  | wp_step))
 refine⟨rfl,?_⟩;refine codeAny_call_builtin_at (Code.quiet_builtin _ (by decide +kernel)) entry_typeCall (wpAny_check_type_call_sub hC (yp4 F T hC hn hi hl hf hfc ?_));exact hq
def yp7(hb:bm.contains (.type "BaseException")=true)(hh:A.handled=none)(hx:wpAny M A x (λv s₁=>∃(e:Addr) (oe:Obj),v=.ref e/\s₁.heap.get? C=some (excClassObj nm q C N bs bm hd sn sub ab col dd k0 k1 k2 k3 k5 newId)/\s₁.heap.get? e=some oe/\oe.cls=.ref C/\
  (∃vs,oe.data=.fields vs/\vs[1]?=some .none)/\E (.ref e) s₁) E s):wpAny M A (raiseStmt env (some x) none) Q E s:=by
 have hc:(Value.ref C::bm).contains (.type "BaseException")=true:=by rw[List.contains_cons,hb,Bool.or_true]
 unfold raiseStmt;refine Aa1 (Ae1 hx (λv s₁ z=>?_) λ_ _ y=>y);obtain⟨e,oe,rfl,hC,he,hcls,⟨vs,hdat,h1⟩,z⟩:=z;obtain⟨hp,gg,dr,tk,osx⟩:=s₁;repeat (first
  | (with_reducible refine wpAny_loadPart_at he ?_;rw[hcls])
  | with_reducible refine wpAny_loadPart_at he ?_
  | with_reducible refine wpAny_loadPart_at hC ?_
  | (with_reducible refine wpAny_isSubtype_exc hC ?_;rw[hc])
  | wp_step)
 rw[hdat];refine Ab1 ?_;rw[h1];refine Ab1 ?_;rw[if_neg (by simp)];refine Ab1 ?_;exact wpAny_raiseNew_none hh z
def xx3(hC:h.get? C=some (excClassObj nm q C N bs bm true sn sub ab col dd k0 k1 k2 k3 k5 newId)){name:Str}(L:va3 K C)(X:K.In h)(hn:PySem.W.findIn K (.ref C) name=some none)(hx:h.get? a=some o)(hc:o.cls=.ref C)(hdat:o.data=.fields vs)(hd:o.dict=some dx)(hm:h.Ns dx mA)(hv:mA name=some v)(hq:Q (.done (.ret v)) ⟨h,g,d,t,os⟩) :
 wpAny (model prog w) A (Builtin.«object.__getattribute__» ⟨[.ref a,.str name tk],[]⟩) Q E ⟨h,g,d,t,os⟩:=by
 have lc:=PySem.W.looks_findIn (M:=model prog w) X hn;repeat (any_goals (first
  | assumption
  | (with_reducible refine wpAny_loadPart_at hx ?_;first | rw[hc] | rw[hd])
  | with_reducible refine lc.at ?_
  | wp_step))
 rw[hdat];show wpAny _ _ (instanceDict a false) _ _ _;unfold instanceDict;repeat (any_goals (first
  | assumption
  | (with_reducible refine wpAny_loadPart_at hx ?_;rw[hd])
  | wp_step))
 rw[hc];repeat (any_goals (first
  | assumption
  | with_reducible refine wpAny_loadPart_at hC ?_
  | (with_reducible refine wpAny_nsGet hm ?_;rw[hv])
  | wp_step))
def wg4(hC:h.get? C=some (excClassObj nm q C N bs bm true sn sub ab col dd k0 k1 k2 k3 k5 newId)){name:Str}(L:va3 K C)(X:K.In h)(hn:PySem.W.findIn K (.ref C) name=some none)(hx:h.get? a=some o)(hc:o.cls=.ref C)(hdat:o.data=.fields vs)(hd:o.dict=some dx)(hm:h.Ns dx mA)(hv:mA name=some v)(hq:T (.ok (.ret v)) ⟨h,g,d,t,os⟩) :
 codeAny (model prog w) A (.call (.builtin "BaseException.__getattribute__") ⟨[.ref a,.str name tk],[]⟩) T ⟨h,g,d,t,os⟩:=
 codeAny_call_builtin F.excAttr_ValueError.ga.plain F.entry_bexc_ga (xd0 L X hx hc (xx3 hC L X hn hx hc hdat hd hm hv hq))
theorem vs3(hC:h.get? C=some (excClassObj nm q C N bs bm true sn sub ab col dd k0 k1 k2 k3 k5 newId)){fill expr:Bool}{name:Str}(L:va3 K C)(X:K.In h)(hn:PySem.W.findIn K (.ref C) name=some none)(hx:h.get? a=some o)(hc:o.cls=.ref C)(hdat:o.data=.fields vs)(hd:o.dict=some dx)(hm:h.Ns dx mA)(hv:mA name=some v)(hb:∀id,v≠.builtin id)(hq:T v ⟨h,g,d,t,os⟩) :
 wpAny (model prog w) A (getAttrBy (.ref a) (.str name tk) fill expr) T E ⟨h,g,d,t,os⟩:=by
 have f3:=F.excAttr_ValueError.ga.bind (.ref a);have x0:(expr&&onTheHeap (Value.builtin "BaseException.__getattribute__"))=false:=by cases expr<;>rfl
 have x2:(Value.builtin "BaseException.__getattribute__" == Value.builtin "object.__getattribute__")=false:=by decide +kernel
 have x1:(onTheHeap (Value.ref C)&&Value.builtin "BaseException.__getattribute__" == Value.builtin "object.__getattribute__")=false:=by rw[x2];rfl
 have la:=PySem.W.looks_findIn (M:=model prog w) X L.ga;have lt:=PySem.W.looks_findIn (M:=model prog w) X L.gt;repeat (any_goals (first
  | assumption
  | (with_reducible refine wpAny_loadPart_at hx ?_;rw[hc])
  | with_reducible refine la.at ?_
  | with_reducible refine lt.at ?_
  | wp_step))
 refine wg4 hC L X hn hx hc hdat hd hm hv ?_;repeat (any_goals (first | assumption | wp_step))
 cases v with
 | builtin id=>exact absurd rfl (hb id)
 | _=>exact Ab1 hq
def wg5(hC:h.get? C=some (excClassObj nm q C N bs bm true sn sub ab col dd k0 k1 k2 k3 k5 newId)){expr:Bool}{name:Str}(L:va3 K C)(X:K.In h)(hn:PySem.W.findIn K (.ref C) name=some none)(hx:h.get? a=some o)(hc:o.cls=.ref C)(hdat:o.data=.fields vs)(hd:o.dict=some dx)(hm:h.Ns dx mA)(hv:mA name=some v)(hb:∀id,v≠.builtin id)(hq:T v ⟨h,g,d,t+1,os⟩) :
 wpAny (model prog w) A (getAttr (.ref a) name expr) T E ⟨h,g,d,t,os⟩:=by
 unfold getAttr;repeat (any_goals (first
  | assumption
  | with_reducible apply vs3 hC L X hn hx hc hdat hd hm hv hb
  | wp_step))
def xn4{name:Str}(hm:h.Ns1 dx mA)(hw:Within mA ns)(hsz:ns.length<=1000)(hq:∀h' tk',h'.Ns1 dx (λy=>if y=name then some v else mA y)->Heap.SameBut dx h h'->Q (.done (.ret .none)) ⟨h',g,d,tk',os⟩) :
 wpAny (model prog w) A (Builtin.ObjectAttr.storeInDict dx (.str name tk) name v) Q E ⟨h,g,d,t,os⟩:=by
 unfold Builtin.ObjectAttr.storeInDict Builtin.ObjectAttr.newKeyGuard;refine Aa1 (Ab1 (Aa1 (wpAny_nsSet1 hm λh' hn' same=>?_)));obtain⟨oD,esD,epD,hoD,hdD,hcD⟩:=hn'.count (Within.cons name v hw);refine Aa1 (wpAny_lookBehind hoD ?ln ?_);case ln=>
  rw[hdD];refine pastItsLine_dict (Av0 hcD ?_);rw[Au0,sizeLine_eq];omega
 wp_walk
 exact hq h' _ hn' same
def wg3(hC:h.get? C=some (excClassObj nm q C N bs bm true sn sub ab col dd k0 k1 k2 k3 k5 newId)){name:Str}(X:K.In h)(hn:PySem.W.findIn K (.ref C) name=some none)(hp:refuseLoop (.ref a) "__setattr__" bm=pure ())(hx:h.get? a=some o)(hc:o.cls=.ref C)(hdat:o.data=.fields vs)(hd:o.dict=some dx)(hm:h.Ns1 dx mA)(hq:∀h' tk',h'.Ns1 dx (λy=>if y=name then some v else mA y)->Heap.SameBut dx h h'->Q (.done (.ret .none)) ⟨h',g,d,tk',os⟩)(hw:Within mA ns)(hsz:ns.length<=1000) :
 wpAny (model prog w) A (Builtin.«object.__setattr__» ⟨[.ref a,.str name tk,v],[]⟩) Q E ⟨h,g,d,t,os⟩:=by
 have ln:=PySem.W.looks_findIn (M:=model prog w) X hn;unfold Builtin.«object.__setattr__»;repeat (first
  | rw[refuse_eq]
  | (rw[refuseLoop_ref,hp])
  | (with_reducible refine wpAny_loadPart_at hx ?_;rw[hc])
  | with_reducible refine wpAny_mroOf_exc hC ?_
  | with_reducible refine ln.at ?_
  | wp_step)
 rw[hd];refine Ab1 ?_;show wpAny _ _ (Builtin.ObjectAttr.storeInDict dx (.str name tk) name v) _ _ _;exact xn4 hm hw hsz hq
def xx1(hC:h.get? C=some (excClassObj nm q C N bs bm true sn sub ab col dd k0 k1 k2 k3 k5 newId)){name:Str}(X:K.In h)(hn:PySem.W.findIn K (.ref C) name=some none)(hp:refuseLoop (.ref a) "__setattr__" bm=pure ())(hx:h.get? a=some o)(hc:o.cls=.ref C)(hdat:o.data=.fields vs)(hd:o.dict=none)(hq:∀h' tk',h'.Ns1 h.objs.size (λy=>if y=name then some v else none)->h'.get? a=some { o with dict:=some h.objs.size }->(∀b u,b≠a->h.get? b=some u->h'.get? b=some u)->Q (.done (.ret .none)) ⟨h',g,d,tk',os⟩) :
 wpAny (model prog w) A (Builtin.«object.__setattr__» ⟨[.ref a,.str name tk,v],[]⟩) Q E ⟨h,g,d,t,os⟩:=by
 have ln:=PySem.W.looks_findIn (M:=model prog w) X hn;unfold Builtin.«object.__setattr__»;repeat (first
  | rw[refuse_eq]
  | (rw[refuseLoop_ref,hp])
  | (with_reducible refine wpAny_loadPart_at hx ?_;rw[hc])
  | with_reducible refine wpAny_mroOf_exc hC ?_
  | with_reducible refine ln.at ?_
  | wp_step)
 rw[hd,hdat];have has:a<h.objs.size:=Heap.lt_size hx;refine Aa1 (wpAny_alloc' ?_);refine Aa1 (wpAny_update' (Ab0 _ hx) ?_);refine Ab1 ?_;show wpAny _ _ (Builtin.ObjectAttr.storeInDict h.objs.size (.str name tk) name v) _ _ _;have ne:h.objs.size≠a:=By0 has;have there:((h.push { cls:=.type "dict",data:=.dict #[] }).update a λu=>{ cls:=u.cls,dict:=some h.objs.size,data:=u.data,slots:=u.slots }).get? h.objs.size=some { cls:=.type "dict",data:=.dict #[] }:=
  (Heap.get?_update_ne _ _ _ _ ne).trans (Heap.get?_push_at rfl rfl)
 have self:((h.push { cls:=.type "dict",data:=.dict #[] }).update a λu=>{ cls:=u.cls,dict:=some h.objs.size,data:=u.data,slots:=u.slots }).get? a=some { o with dict:=some h.objs.size }:=
  Ce0 _ (Ab0 _ hx) (Obj.isFreed_of_fields hdat)
 have empty:((h.push { cls:=.type "dict",data:=.dict #[] }).update a λu=>{ cls:=u.cls,dict:=some h.objs.size,data:=u.data,slots:=u.slots }).Ns h.objs.size (λ_=>none):=
  ⟨_,#[],_,there,rfl,(λe he=>absurd he (by simp)),λ_=>rfl⟩
 refine xn4 (ns:=[]) (Heap.Ns1.of_empty empty) Within.nil (by simp) λh' tk' n1 same=>hq h' tk' n1 ((same.2 a ne.symm).trans self) λb u hb e=>?_
 exact(same.2 b (Ar0 (Heap.lt_size e))).trans ((Heap.get?_update_ne _ _ _ _ hb).trans (Ab0 _ e))
def xx2(L:va3 K C)(X:K.In h)(hx:h.get? a=some o)(hc:o.cls=.ref C)(hq:Q () ⟨h,g,d,t,os⟩) :
 wpAny M A (checkBuiltinCall "object.__setattr__" ⟨[.ref a,nv,v],[]⟩) Q E ⟨h,g,d,t,os⟩:=by
 have k1:builtinKind "object.__setattr__" = some .slot:=by decide +kernel
 have k2:splitId "object.__setattr__" = some ("object","__setattr__"):=by decide +kernel
 have k3:=F.store_ValueError.args (.ref a) nv v;have ls:=PySem.W.looks_subIn (M:=M) X L.so;simp only[checkBuiltinCall,k1,k2];refine Aa1 ?_;unfold isInstance;repeat (first
  | (with_reducible refine wpAny_loadPart_at hx ?_;rw[hc])
  | with_reducible refine ls.at ?_
  | wp_step)
 exact hq
def xn5{name:Str}(L:va3 K C)(X:K.In h)(hsa:PySem.W.findIn K (.ref C) "__setattr__" = some (some (.builtin "object.__setattr__")))(hx:h.get? a=some o)(hc:o.cls=.ref C)(hb:∀(A':Around) (E':Value->Shared->Prop) (tk:Tok) (t':Nat) (T:Fin->Shared->Prop),(∀s',Q () s'->T (.done (.ret .none)) s')->wpAny (model prog w) A' (Builtin.«object.__setattr__» ⟨[.ref a,.str name tk,v],[]⟩) T E' ⟨h,g,d,t',os⟩) :
 wpAny (model prog w) A (setAttr (.ref a) name v) Q E ⟨h,g,d,t,os⟩:=by
 have f3:=F.store_ValueError.slot.bind (.ref a);have ls:=PySem.W.looks_findIn (M:=model prog w) X hsa;unfold setAttr callSpecial? specialOf;repeat (any_goals (first
  | assumption
  | (with_reducible refine wpAny_loadPart_at hx ?_;rw[hc])
  | with_reducible refine ls.at ?_
  | wp_step))
 refine codeAny_call_builtin F.store_ValueError.slot.plain F.store_ValueError.entry (xx2 L X hx hc (hb _ _ _ _ _ λs' z=>?_));repeat (any_goals (first | assumption | wp_step))
def wg6(F:ExcBaseFacts B newId initId bmB)(T:OwnTail h bmB bm)(hC:h.get? C=some (excClassObj nm q C N bs bm hd sn sub ab col dd k0 k1 k2 k3 k5 newId))(hx:h.get? a=some o)(hc:o.cls=.ref C)(hdat:o.data=.fields fs)(hf:fs[0]?=some (.ref t0))(hl:vs.length<=sizeLine)(hq:R (.ok (.ret .none)) ⟨(h.push { cls:=.type "tuple",data:=.seq vs.toArray }).update a (Obj.mapFields (·.setIfInBounds 0 (.ref h.objs.size))),g,d,t,os⟩) :
 codeAny (model prog w) A (.call (.builtin initId) ⟨.ref a::vs,[]⟩) R ⟨h,g,d,t,os⟩:=by
 refine codeAny_call_builtin F.init.plain F.initEntry (wpAny_check_init_subT F T hC hx hc ?_);have h1:=Ab0 { cls:=.type "tuple",data:=.seq vs.toArray } hx
 wp_walk
 rw[hdat];refine Ab1 ?_;rw[hf];refine Ab1 ?_;refine Aa1 (wpAny_setField h1 hdat (Bw0.mp hf).1 ?_)
 wp_walk
 exact hq
end
section
variable{X:Cx}{A3:List (Addr×Obj)}{σ:St}{H H':Hp}{s:Shared}{e:Addr}{h':Heap}
abbrev Cx.over(X:Cx)(e:Addr):Cx:={ X with ex:=[e] }
def Un.over(u:Un fs [] H H' h h')(e:Addr):Un fs [e] H H' h h' where
 keep:=λb o q n hb _=>u.keep b o q n hb (by simp)
 slot:=λb o q n hb _=>u.slot b o q n hb (by simp)
 free:=λb o q n _=>u.free b o q n (by simp)
 there:=λb o q _=>u.there b o q (by simp)
 tups:=u.tups
 frzs:=u.frzs
 tbls:=u.tbls
def Inv.over(I:Inv X A3 σ H s)(hx:X.ex=[])(h1:e≠X.env.locals)(h2:∀x c,X.env.cells.lookup x=some c->c≠e)(h3:X.base.get? e=none)(h4:e∉X.fs):Inv (X.over e) A3 σ H s:=by
 have ok:=I.ok;have one:∀{b:Addr},b∈[e]->b=e:=λhb=>Ae0.mp hb
 refine⟨⟨ok.mod,ok.kind,ok.glob,ok.blt,ok.above,ok.inj,ok.has,ok.cab,ok.hd,ok.frames,ok.stk,λb hb=>?_,ok.bs,ok.bsz,λb o q hb=>?_,λb hb=>?_,ok.funs,ok.frf⟩,I.os,I.bare,?_,I.loc,I.cell,I.free,I.freeC,I.pin,I.hok,I.len⟩
 ·rw[one hb];exact⟨h1,h2⟩
 ·rw[one hb,h3] at q;cases q
 ·rw[one hb];exact h4
 ·have b:=I.base
  rw[hx] at b;exact b.over e
def Inv.changed(I:Inv (X.over e) A3 σ H s)(he:H e=none)(hp:∀p∈X.pn++A3,p.1≠e)(k:∀b u,b≠e->s.heap.get? b=some u->h'.get? b=some u)(th:∃u,h'.get? e=some u){t':Nat} :
 Inv (X.over e) A3 σ H { s with heap:=h',toks:=t' }:=by
 have nl:X.env.locals≠e:=λz=>(I.ok.exf e (Ae0.mpr rfl)).1 z.symm
 refine I.step (g':=s.gens) (d':=s.drawn) (t':=t') (ch:=[e]) (λb hb=>?_) (λb o _ _ hc q _=>k b o (λz=>hc (Ae0.mpr z)) q) (λb o _ _ hc q _=>⟨o.slots,k b o (λz=>hc (Ae0.mpr z)) q⟩) (λb o _ _ n=>n)
  (λb o hc q=>⟨o,k b o (λz=>hc (Ae0.mpr z)) q⟩) (λ_ _ q=>q) (λ_ _ _ q=>q) (λ_ ps q=>⟨#[],by rw[Array.append_empty];exact q⟩) (λm hm=>?_) (λb ob q=>?_) I.bare
 ·rw[Ae0.mp hb]
  have x:=I.ok.exf e (Ae0.mpr rfl);exact⟨.inl (Ae0.mpr rfl),x.1,x.2,hp⟩
 ·obtain⟨o,es,ep,ho,r⟩:=hm
  exact⟨o,es,ep,k _ _ nl ho,r⟩
 ·refine(I.hok b ob q).stay (λc u hc z=>k c u ?_ z) (λ_ q=>q) λ_ _ q=>q
  rintro rfl;rcases hc with rfl | hc
  ·rw[he] at q;cases q
  ·rw[he] at hc;cases hc
end
section
variable{X:Cx}
def vn4(t:TE):TE:=λσ H Q=>t σ H λv H1=>∃i:Int,v=.int i/\i.natAbs.log2<1920/\Q (.str (toString i:String)) H1
def we3(h:PE X e t)(hs:PJ X es ts):PJ X (.FormattedValue e (-1) none pos::es) (vn4 t::ts):=λout A3 s σ H Q I w=>by
 refine joinParts_cons (FormattedValue_plain (thn (h A3 s σ H _ I w) λu s1 hI125=>?_));obtain⟨v,H1,I1,r,i,ev,hd,y,ey,hy,hz,q⟩:=hI125;subst ev;cases ey;obtain⟨t',rfl⟩:=r;exact formatField_int_small hd ⟨hz,hs (out++(toString i:String)) A3 _ σ H1 Q (I1.tok _) q⟩
end
section
variable{X:Cx}{A3:List (Addr×Obj)}{σ:St}{H:Hp}{s:Shared}{e C C0:Addr}{o:Obj}{e1 e2:Expr}{t1 t2:TE}{B nm q:Str}{N:Addr}{bs bm:List Value}{hd:Bool}{sn:List Str}{sub:List Value}{ab:Bool}{col:Option Bool}{dd:Option Addr}{k0 k1 k2 k3 k5:Option Value}{dx:Addr}{i j:Nat}{x y name:Str}{v:V}{id1:String}
def xw4{pB pA pc pe:Pos}{wx2:List Stmt}{R:Flow->Shared->Prop}{fs:Array Value}{t0:Addr}{pl:Sem Bool}(I:Inv (X.over e) A3 σ H s)(he:H e=none)(hp:∀p∈X.pn++A3,p.1≠e)(hx:s.heap.get? e=some o)(hc:o.cls=.ref C)(hdat:o.data=.fields fs)(hf:fs[0]?=some (.ref t0))(hnl:e≠X.env.locals)(hnf:e∉X.fs)(lk:X.K.lookup C=some (excClassObj nm q C N bs bm hd sn sub ab col dd k0 k1 k2 k3 k5 "ValueError.__new__"))(tl:PySem.W.tailIn X.K bmV bm=true)(hB:Gl X B)(mB:X.mg B=some (.ref C0))(hr:PySem.W.readsIn X.K C0 (.type "type")=true)(hfc:PySem.W.findCls X.K (.ref C0) (.type "type") "__init__" = some (.val (.builtin "ValueError.__init__")))(hg:PySem.W.specialIn X.K (.ref C0) "__getattribute__" = some (some (.builtin "type.__getattribute__")))(h1:PE (X.over e) e1 t1)(h2:PE (X.over e) e2 t2){z:Str}(w:t1 σ H λx H1=>t2 σ H1 λy H2=>[x,y]=[V.ref e,.str z]/\H2=H)(k:∀s',Inv (X.over e) A3 σ H s'->(∃t1:Addr,s'.heap.get? e=some { o with data:=.fields (fs.setIfInBounds 0 (.ref t1)) })->wpAny (model X.prog X.w) X.A (execs wx2 X.env) R X.xe s')(hdb:(B == ("__debug__" : Str))=false:=by decide)(hs:starEach [e1,e2] X.env=(false,eval e1 X.env)::starEach [e2] X.env:=by rfl)(hs2:starEach [e2] X.env=(false,eval e2 X.env)::starEach [] X.env:=by rfl)(hpl:(backTo pc (starEach [e2] X.env)).any (·.1)=false:=by rfl)(hsw:swapsWith (.Call (.Attribute (.Name B pB) "__init__" pA) [e1,e2] [] pc) none pe.line X.env=pure false:=by rfl)(ht:eval (.Call (.Attribute (.Name B pB) "__init__" pA) [e1,e2] [] pc) X.env=(do
  let ov <-eval (.Name B pB) X.env
  standAt pA.atName
  let (f,first) <-holding [ov] (getMethod ov "__init__" pl)
  callWith pc f first (backTo pc (starEach [e1,e2] X.env)) (backToKw pc (keywordEach [] X.env))):=by rfl) :
 wpAny (model X.prog X.w) X.A (execs (.Expr (.Call (.Attribute (.Name B pB) "__init__" pA) [e1,e2] [] pc) pe::wx2) X.env) R X.xe s:=by
 have IP:Inv (X.over e) ((e,o)::A3) σ H s:=I.pins_of λp hpp=>by
  rcases Aj0.mp hpp with rfl | m
  ·exact⟨hx,he,hnl,hnf,λv z=>by rw[hdat] at z;cases z⟩
  ·exact I.pin p (Am0 _ m)
 refine wpAny_execs_cons (wpAny_Expr_any ?_ I.quiet hsw);refine PySem.W.methodCall_KW (pl:=pl) (zu9 (X:=X.over e) I hB mB ?_ hdb) ht;refine PySem.W.method_cls I.kIn hg (PySem.W.cls_value I.kIn hr hfc (by decide +kernel) ?_);refine PyProof.Rows.callWith_builtin1 ?_ hs hpl;refine thn (zb8 (X:=X.over e) h1 (zb8 h2 zf4 hs2) hs pc ((e,o)::A3) _ σ H (λvs H2=>vs=[V.ref e,.str z]/\H2=H) (IP.tok _) w) λus s1 hI126=>?_
 obtain⟨vs,H2,I2,r,q1,q2⟩:=hI126;subst q1 q2;obtain⟨u1,u2,rfl,r1,r2⟩:=vc3 r;obtain rfl:u1=Value.ref e:=r1;obtain⟨tz,rfl⟩:=(show ∃t,u2=Value.str z t from r2);have hx2:s1.heap.get? e=some o:=(I2.pin (e,o) (Am0 _ (Br0))).1;obtain⟨h3,g3,d3,t3,os3⟩:=s1;refine wpAny_call (wg6 F.excBase_ValueError (PySem.W.tail_of_in I2.kIn tl) (I2.kIn _ _ lk) hx2 hc hdat hf (by show 1<=sizeLine;decide) ?_);have h4:=Ab0 { cls:=.type "tuple",data:=.seq [Value.str z tz].toArray } hx2;have hd4:=Obj.data_mapFields hdat (·.setIfInBounds 0 (Value.ref h3.objs.size));have self:=Ce0 (Obj.mapFields (·.setIfInBounds 0 (Value.ref h3.objs.size))) h4 (Obj.isFreed_of_fields hd4);refine k _ ((I2.pins_of λp hpp=>I2.pin p (Am0 _ (Bg0 _ hpp))).changed (t':=t3) he hp (λb u hb q=>?_) ⟨_,self⟩) ⟨h3.objs.size,self.trans ?_⟩
 ·rw[Cm0 _ _ (Ne.symm hb)]
  exact Ab0 _ q
 ·obtain⟨oc,od,odt,osl⟩:=o
  dsimp only at hdat;subst hdat;rfl
structure vr7(X:Cx)(A3:List (Addr×Obj))(H:Hp)(e dx:Addr):Prop where
 new:X.s₀.heap.objs.size<=dx
 loc:dx≠X.env.locals
 cel:∀x c,X.env.cells.lookup x=some c->c≠dx
 pin:∀p∈X.pn++A3,p.1≠dx
 fre:H dx=none
 ne:dx≠e
def yz7{px py pa pos:Pos}{wx2:List Stmt}{R:Flow->Shared->Prop}{fs:Array Value}(I:Inv (X.over e) A3 σ H s)(he:H e=none)(hp:∀p∈X.pn++A3,p.1≠e)(hx:s.heap.get? e=some o)(hc:o.cls=.ref C)(hdat:o.data=.fields fs)(hdn:o.dict=none)(lk:X.K.lookup C=some (excClassObj nm q C N bs bm true sn sub ab col dd k0 k1 k2 k3 k5 id1))(L:va3 X.K C)(hsa:PySem.W.findIn X.K (.ref C) "__setattr__" = some (some (.builtin "object.__setattr__")))(hn:PySem.W.findIn X.K (.ref C) name=some none)(hrf:refuseLoop (.ref e) "__setattr__" bm=pure ())(hi:X.N[i]?=some x)(hj:X.N[j]?=some y)(vi:Vis X.env.scope x)(vj:Vis X.env.scope y)(si:σ[i]?=some (some (.ref e)))(sj:σ[j]?=some (some v))(k:∀s' dx u,wv5 v u->Inv (X.over e) A3 σ H s'->s'.heap.get? e=some { o with dict:=some dx }->s'.heap.Ns1 dx (λz=>if z=name then some u else none)->vr7 X A3 H e dx->wpAny (model X.prog X.w) X.A (execs wx2 X.env) R X.xe s')(d1:(x == ("__debug__" : Str))=false:=by decide)(d2:(x == ("__classdict__" : Str))=false:=by decide)(d3:(y == ("__debug__" : Str))=false:=by decide)(d4:(y == ("__classdict__" : Str))=false:=by decide)(hs:swapsWith (.Name y py) (some (.Attribute (.Name x px) name pa)) pos.line X.env=pure false:=by rfl) :
 wpAny (model X.prog X.w) X.A (execs (.Assign [.Attribute (.Name x px) name pa] (.Name y py) pos::wx2) X.env) R X.xe s:=by
 have IP:Inv (X.over e) ((e,o)::A3) σ H s:=I.pins_of λp hpp=>by
  rcases Aj0.mp hpp with rfl | m
  ·have z:=I.ok.exf e (Ae0.mpr rfl)
   exact⟨hx,he,z.1,I.ok.exfs e (Ae0.mpr rfl),λv z=>by rw[hdat] at z;cases z⟩
  ·exact I.pin p (Am0 _ m)
 refine wpAny_execs_cons (plainObj_wpAny_Assign_Attribute ?_ hs);refine thn (zu1 (X:=X.over e) hj vj d3 d4 ((e,o)::A3) s σ H (λv' H'=>v'=v/\H'=H) IP ⟨v,sj,rfl,rfl⟩) λu s1 hI127=>?_
 obtain⟨v1,H1,I1,r,q1,q2⟩:=hI127;subst q1 q2;refine thn (zu1 (X:=X.over e) hi vi d1 d2 ((e,o)::A3) s1 σ H1 (λv' H'=>v'=.ref e/\H'=H1) I1 ⟨.ref e,si,rfl,rfl⟩) λu2 s2 hI128=>?_
 obtain⟨v2,H2,I2,r2,q1,q2⟩:=hI128;subst q1 q2;obtain rfl:u2=Value.ref e:=r2;have hx2:s2.heap.get? e=some o:=(I2.pin (e,o) (Am0 _ (Br0))).1;have I3:Inv (X.over e) A3 σ H2 s2:=I2.pins_of λp hpp=>I2.pin p (Am0 _ (Bg0 _ hpp))
 obtain⟨h3,g3,d3',t3,os3⟩:=s2;refine xn5 L I3.kIn hsa hx2 hc λA' E' tk t' T hT=>xx1 (I3.kIn _ _ lk) I3.kIn hn hrf hx2 hc hdat hdn λh' tk' n1 self kp=>hT _ ?_
 have I4:=I3.changed (h':=h') (t':=tk') he hp kp ⟨_,self⟩;refine k _ h3.objs.size u r I4 self n1 ⟨I3.sz,By0 I3.lt,λz c hcc=>?_,λp hpp=>?_,I3.hok.fresh (Al0 _),By0 (Heap.lt_size hx2)⟩
 ·obtain⟨w',ow,how,_⟩:=I3.cell z c hcc
  exact Ar0 (Heap.lt_size how)
 ·exact Ar0 (Heap.lt_size (I3.pin p hpp).1)
def Inv.nofs0(I:Inv (X.over e) A3 σ H s)(_h:s.heap.get? dx=some oD)(D:vr7 X A3 H e dx):dx∉X.fs:=λm=>by
 obtain⟨_,u,hu,_⟩:=I.ok.funs.mem m;exact absurd (Ap0 (Heap.lt_size hu) D.new) (Bc0 _)
def Inv.changedD(I:Inv (X.over e) A3 σ H s)(D:vr7 X A3 H e dx)(k:∀b u,b≠dx->s.heap.get? b=some u->h'.get? b=some u)(th:∃u,h'.get? dx=some u){t':Nat}:Inv (X.over e) A3 σ H { s with heap:=h',toks:=t' }:=by
 refine I.step (g':=s.gens) (d':=s.drawn) (t':=t') (ch:=[dx]) (λb hb=>?_) (λb o _ _ hc q _=>k b o (λz=>hc (Ae0.mpr z)) q) (λb o _ _ hc q _=>⟨o.slots,k b o (λz=>hc (Ae0.mpr z)) q⟩) (λb o _ _ n=>n)
  (λb o hc q=>⟨o,k b o (λz=>hc (Ae0.mpr z)) q⟩) (λ_ _ q=>q) (λ_ _ _ q=>q) (λ_ ps q=>⟨#[],by rw[Array.append_empty];exact q⟩) (λm hm=>?_) (λb ob q=>?_) I.bare
 ·rw[Ae0.mp hb]
  exact⟨.inr D.new,D.loc,D.cel,D.pin⟩
 ·obtain⟨o,es,ep,ho,r⟩:=hm
  exact⟨o,es,ep,k _ _ (Ne.symm D.loc) ho,r⟩
 ·refine(I.hok b ob q).stay (λc u hc z=>k c u ?_ z) (λ_ q=>q) λ_ _ q=>q
  rintro rfl;rcases hc with rfl | hc
  ·rw[D.fre] at q;cases q
  ·rw[D.fre] at hc;cases hc
def xk8{px py pa pos:Pos}{wx2:List Stmt}{R:Flow->Shared->Prop}{fs:Array Value}{mA:Str->Option Value}{ns:List Str}(I:Inv (X.over e) A3 σ H s)(he:H e=none)(hx:s.heap.get? e=some o)(hc:o.cls=.ref C)(hdat:o.data=.fields fs)(hdd:o.dict=some dx)(hm:s.heap.Ns1 dx mA)(hw:Within mA ns)(hsz:ns.length<=1000)(D:vr7 X A3 H e dx)(lk:X.K.lookup C=some (excClassObj nm q C N bs bm true sn sub ab col dd k0 k1 k2 k3 k5 id1))(L:va3 X.K C)(hsa:PySem.W.findIn X.K (.ref C) "__setattr__" = some (some (.builtin "object.__setattr__")))(hn:PySem.W.findIn X.K (.ref C) name=some none)(hrf:refuseLoop (.ref e) "__setattr__" bm=pure ())(hi:X.N[i]?=some x)(hj:X.N[j]?=some y)(vi:Vis X.env.scope x)(vj:Vis X.env.scope y)(si:σ[i]?=some (some (.ref e)))(sj:σ[j]?=some (some v))(k:∀s' u,wv5 v u->Inv (X.over e) A3 σ H s'->s'.heap.get? e=some o->s'.heap.Ns1 dx (λz=>if z=name then some u else mA z)->wpAny (model X.prog X.w) X.A (execs wx2 X.env) R X.xe s')(d1:(x == ("__debug__" : Str))=false:=by decide)(d2:(x == ("__classdict__" : Str))=false:=by decide)(d3:(y == ("__debug__" : Str))=false:=by decide)(d4:(y == ("__classdict__" : Str))=false:=by decide)(hs:swapsWith (.Name y py) (some (.Attribute (.Name x px) name pa)) pos.line X.env=pure false:=by rfl) :
 wpAny (model X.prog X.w) X.A (execs (.Assign [.Attribute (.Name x px) name pa] (.Name y py) pos::wx2) X.env) R X.xe s:=by
 obtain⟨oD,esD,epD,hoD,hdD,rD⟩:=id hm;have IP:Inv (X.over e) ((dx,oD)::(e,o)::A3) σ H s:=I.pins_of λp hpp=>by
  rcases Aj0.mp hpp with rfl | m
  ·exact⟨hoD,D.fre,D.loc,I.nofs0 hoD D,λv z=>by rw[hdD] at z;cases z⟩
  ·rcases Aj0.mp m with rfl | m
   ·have z:=I.ok.exf e (Ae0.mpr rfl)
    exact⟨hx,he,z.1,I.ok.exfs e (Ae0.mpr rfl),λv z=>by rw[hdat] at z;cases z⟩
   ·exact I.pin p (Am0 _ m)
 refine wpAny_execs_cons (plainObj_wpAny_Assign_Attribute ?_ hs);refine thn (zu1 (X:=X.over e) hj vj d3 d4 _ s σ H (λv' H'=>v'=v/\H'=H) IP ⟨v,sj,rfl,rfl⟩) λu s1 hI129=>?_
 obtain⟨v1,H1,I1,r,q1,q2⟩:=hI129;subst q1 q2;refine thn (zu1 (X:=X.over e) hi vi d1 d2 _ s1 σ H1 (λv' H'=>v'=.ref e/\H'=H1) I1 ⟨.ref e,si,rfl,rfl⟩) λu2 s2 hI130=>?_
 obtain⟨v2,H2,I2,r2,q1,q2⟩:=hI130;subst q1 q2;obtain rfl:u2=Value.ref e:=r2;have hx2:s2.heap.get? e=some o:=(I2.pin (e,o) (Am0 _ (Bg0 _ Br0))).1;have hm2:s2.heap.Ns1 dx mA:=⟨oD,esD,epD,(I2.pin (dx,oD) (Am0 _ Br0)).1,hdD,rD⟩;have I3:Inv (X.over e) A3 σ H2 s2:=I2.pins_of λp hpp=>I2.pin p (Am0 _ (Bg0 _ (Bg0 _ hpp)))
 obtain⟨h3,g3,d3',t3,os3⟩:=s2;refine xn5 L I3.kIn hsa hx2 hc λA' E' tk t' T hT=>wg3 (I3.kIn _ _ lk) I3.kIn hn hrf hx2 hc hdat hdd hm2 (λh' tk' n1 same=>hT _ ?_) hw hsz
 obtain⟨o5,_,_,ho5,_⟩:=id n1;have I4:=I3.changedD (h':=h') (t':=tk') D (λb u hb q=>(same.2 b hb).trans q) ⟨_,ho5⟩;exact k _ u r I4 ((same.2 e (Ne.symm D.ne)).trans hx2) n1
end
abbrev cxM(P:Program)(w:World)(K:PySem.W.Frag)(mg:Str->Option Value)(base:Heap)(N:List Str)(qual:Str)(scope:Scope)(f:Addr)(cdv:Value)(A:Around)(outer:List Env)(s:Shared)(H:Hp):Cx:={ (wx0 CX0 P w K mg base N qual scope f cdv A outer s H E0).nox with calm:=false }
open H in
def wk8{P:Program}{w:World}{K:PySem.W.Frag}{mg:Str->Option Value}{base:Heap}{k:Nat}{f e:Addr}{name qual:Str}{params:Arguments}{body:List Stmt}{scope:Scope}{dV kV doc pm cdv ct oc:Value}{an od:Option Addr}{osl:Array (Option Value)}{N ps:List Str}{A:Around}{outer:List Env}{s:Shared}{H:Hp}{args:Args}{us:List Value}{vs:List V}{R:Result->Shared->Prop}{oe:Obj}{fs:Array Value}(lk:K.lookup f=some ⟨oc,od,.func (fnOf name qual params body scope dV kV doc pm an cdv ct),osl⟩)(hcd:codeIn K cdv qual=true)(S:zc0 N ps scope)(hr:wv8 (k+1) { A with handled:=none })(e0:vi3 P w K mg base A outer s H)(hb:BindsTo s (fnOf name qual params body scope dV kV doc pm an cdv ct) args (ps.zip us))(r:wv6 vs us)(hl:vs.length=ps.length)(hx:s.heap.get? e=some oe)(hd:oe.data=.fields fs)(hbe:base.get? e=none)(hfe:e∉frs outer)(run:∀s1,Inv ((cxM P w K mg base N qual scope f cdv A outer s H).over e) [] (wx1 N vs) H s1->s1.heap.get? e=some oe->
  wpAny (model P w) (A.deeper (envOfC qual scope s.heap.objs.size f cdv)) (execs body (envOfC qual scope s.heap.objs.size f cdv)) (λfl s'=>match fl with | .ret u=>R (.ok (.ret u)) s' | .next=>R (.ok (.ret .none)) s' | _=>False) (λ_ _=>False) s1) :
 codeAny (model P w) A (.call (.ref f) args) R s:=by
 have KX:K.In s.heap:=e0.mod.kin.keeps λb o q=>(e0.bs b o q).1
 have lim:s.heap.NoLimit:=e0.mod.nolimit.keeps λb o q=>(e0.bs b o q).1
 have kinds:∀y∈ps.zip us,scope.names.lookup y.1=some .local\/(scope.names.lookup y.1=some .cell/\((cellsFrom (s.heap.objs.size+1) scope.names []).lookup y.1).isSome=true):=λhI46 hy=>by
  obtain⟨n,v⟩:=hI46;rcases S.par n (List.of_mem_zip hy).1 with z | z
  ·exact .inl z
  ·exact .inr ⟨z,PySem.W.cellsFrom_some _ _ _ (.inl z)⟩
 refine codeAny_call_function hr.depth (KX _ _ lk) rfl S.co S.gen rfl (PySem.W.codeRec_of KX hcd) (hb _ _ _ _ ?_);refine wpAny_newFunctionEnv_cells S.kind kinds λenv he s1 x=>?_
 subst he;refine⟨lim.keeps x.toInCall.keep,codeAny_func ?_⟩;have I:Inv (wx0 CX0 P w K mg base N qual scope f cdv { A with handled:=none } outer s H E0) [] (wx1 N vs) H s1:=yw3 S hr.hd ⟨e0.frames,e0.mod,e0.bs,e0.bsz,e0.funs,e0.frf,e0.hok,e0.bare⟩ hl r x;have hx1:=x.toInCall.keep _ _ hx;have es:e<s.heap.objs.size:=Heap.lt_size hx;have I2:Inv ((wx0 CX0 P w K mg base N qual scope f cdv { A with handled:=none } outer s H E0).nox.over e) [] (wx1 N vs) H s1:=(I.wish λ_ _=>False).over rfl (Ar0 es) (λz c hc=>?_) hbe hfe
 ·have ok:=I2.ok
  have I3:Inv ((cxM P w K mg base N qual scope f cdv A outer s H).over e) [] (wx1 N vs) H s1:=⟨⟨ok.mod,ok.kind,ok.glob,ok.blt,ok.above,ok.inj,ok.has,ok.cab,(λz=>by cases z),Around.frames_deeper e0.frames,ok.stk,ok.exf,ok.bs,ok.bsz,ok.noex,ok.exfs,ok.funs,ok.frf⟩,I2.os,I2.bare,I2.base,I2.loc,I2.cell,I2.free,I2.freeC,I2.pin,I2.hok,I2.len⟩;refine Ae1 (run s1 I3 hx1) (λfl s' z=>?_) λ_ _ z=>False.elim z
  cases fl with
  | ret u=>exact z
  | next=>exact z
  | brk=>exact z.elim
  | cont=>exact z.elim
 ·have q:=I.ok.cab z c rfl hc
  exact By0 (Ap0 es q)
def vw4{P:Program}{w:World}{K:PySem.W.Frag}{mg:Str->Option Value}{base:Heap}{k:Nat}{f e C C0:Addr}{name qual:Str}{params:Arguments}{scope:Scope}{dV kV doc pm cdv ct oc:Value}{an od:Option Addr}{osl:Array (Option Value)}{A:Around}{outer:List Env}{s:Shared}{H:Hp}{args:Args}{us:List Value}{R:Result->Shared->Prop}{oe:Obj}{fs:Array Value}{t0:Addr}{a b:Int}{x1 x2:Str}{nm q:Str}{M:Addr}{bs bm:List Value}{sn:List Str}{sub:List Value}{ab:Bool}{col:Option Bool}{dd:Option Addr}{k0 k1 k2 k3 k5:Option Value}{pB pA pc pe p1 p2 p3 p4 p5 p6 p7 p8 q1 q2 q3 q4 r1 r2 r3 r4:Pos}{j1 j2:Nat}(lk:K.lookup f=some ⟨oc,od,.func (fnOf name qual params [.Expr (.Call (.Attribute (.Name "HallError" pB) "__init__" pA) [.Name "self" p1,.JoinedStr [.Constant (.str x1) j1 p2,.FormattedValue (.Name "push" p3) (-1) none p4,.Constant (.str x2) j2 p5,.FormattedValue (.Name "step" p6) (-1) none p7] pc] [] pe) q1,
  .Assign [.Attribute (.Name "self" q2) "push" q3] (.Name "push" q4) r1,.Assign [.Attribute (.Name "self" r2) "step" r3] (.Name "step" r4) p8] scope dV kV doc pm an cdv ct),osl⟩)(hcd:codeIn K cdv qual=true)(S:zc0 ["self","push","step"] ["self","push","step"] scope)(hr:wv8 (k+1) { A with handled:=none })(e0:vi3 P w K mg base A outer s H)(hb:BindsTo s (fnOf name qual params [.Expr (.Call (.Attribute (.Name "HallError" pB) "__init__" pA) [.Name "self" p1,.JoinedStr [.Constant (.str x1) j1 p2,.FormattedValue (.Name "push" p3) (-1) none p4,.Constant (.str x2) j2 p5,.FormattedValue (.Name "step" p6) (-1) none p7] pc] [] pe) q1,
  .Assign [.Attribute (.Name "self" q2) "push" q3] (.Name "push" q4) r1,.Assign [.Attribute (.Name "self" r2) "step" r3] (.Name "step" r4) p8] scope dV kV doc pm an cdv ct) args ((["self","push","step"]:List Str).zip us))(r:wv6 [.ref e,.int a,.int b] us)(hx:s.heap.get? e=some oe)(hc:oe.cls=.ref C)(hd:oe.data=.fields fs)(hdn:oe.dict=none)(hf:fs[0]?=some (.ref t0))(hbe:base.get? e=none)(hfe:e∉frs outer)(he:H e=none)(ha:a.natAbs.log2<1920)(hbb:b.natAbs.log2<1920){z:Str}(hz:∀Q:VK,(z=z->Q (.str z) H)->tJ [tC (.str x1),vn4 (vb2 1),tC (.str x2),vn4 (vb2 2)] Str.empty (wx1 ["self","push","step"] [.ref e,.int a,.int b]) H Q)(lC:K.lookup C=some (excClassObj nm q C M bs bm true sn sub ab col dd k0 k1 k2 k3 k5 "ValueError.__new__"))(tl:PySem.W.tailIn K bmV bm=true)(L:va3 K C)(hsa:PySem.W.findIn K (.ref C) "__setattr__" = some (some (.builtin "object.__setattr__")))(n1:PySem.W.findIn K (.ref C) "push" = some none)(n2:PySem.W.findIn K (.ref C) "step" = some none)(hrf:refuseLoop (.ref e) "__setattr__" bm=pure ())(gB:scope.names.lookup ("HallError" : Str)=some .globalImplicit)(mB:mg "HallError" = some (.ref C0))(hrd:PySem.W.readsIn K C0 (.type "type")=true)(hfc:PySem.W.findCls K (.ref C0) (.type "type") "__init__" = some (.val (.builtin "ValueError.__init__")))(hg:PySem.W.specialIn K (.ref C0) "__getattribute__" = some (some (.builtin "type.__getattribute__")))(l0:scope.names.lookup ("self" : Str)=some .local)(l1:scope.names.lookup ("push" : Str)=some .local)(l2:scope.names.lookup ("step" : Str)=some .local){pl:Sem Bool}(ht:eval (.Call (.Attribute (.Name "HallError" pB) "__init__" pA) [.Name "self" p1,.JoinedStr [.Constant (.str x1) j1 p2,.FormattedValue (.Name "push" p3) (-1) none p4,.Constant (.str x2) j2 p5,.FormattedValue (.Name "step" p6) (-1) none p7] pc] [] pe) (envOfC qual scope s.heap.objs.size f cdv)=(do
  let ov <-eval (.Name "HallError" pB) (envOfC qual scope s.heap.objs.size f cdv)
  standAt pA.atName
  let (g,first) <-holding [ov] (getMethod ov "__init__" pl)
  callWith pe g first (backTo pe (starEach [.Name "self" p1,.JoinedStr [.Constant (.str x1) j1 p2,.FormattedValue (.Name "push" p3) (-1) none p4,.Constant (.str x2) j2 p5,.FormattedValue (.Name "step" p6) (-1) none p7] pc] (envOfC qual scope s.heap.objs.size f cdv))) (backToKw pe (keywordEach [] (envOfC qual scope s.heap.objs.size f cdv)))))(done:∀s' dx u1 u2 (t1:Addr),s'.os=s.os->AllBare s'.gens->Un (frs outer) [e] H H s.heap s'.heap->HOk P w H s'.heap->s'.heap.get? e=some { oe with data:=.fields (fs.setIfInBounds 0 (.ref t1)),dict:=some dx }->
  s'.heap.Ns1 dx (λy=>if y = "step" then some u2 else if y = "push" then some u1 else none)->wv5 (.int a) u1->wv5 (.int b) u2->H dx=none->s.heap.objs.size<=dx->R (.ok (.ret .none)) s') :
 codeAny (model P w) A (.call (.ref f) args) R s:=by
 refine wk8 lk hcd S hr e0 hb r rfl hx hd hbe hfe λs1 I hx1=>?_
 have np:∀p∈([]:List (Addr×Obj))++[],p.1≠e:=λp hp=>by cases hp
 refine xw4 (X:=cxM P w K mg base ["self","push","step"] qual scope f cdv A outer s H) I he np hx1 hc hd hf (Ar0 (Heap.lt_size hx)) hfe lC tl gB mB hrd hfc hg (zu1 (i:=0) rfl (.inl l0)) (xr2 (xq7 zo9 (we3 (zu1 (i:=1) rfl (.inl l1)) (xq7 zo9 (we3 (zu1 (i:=2) rfl (.inl l2)) wp5))))) (z:=z) ⟨.ref e,rfl,hz _ λ_=>⟨rfl,rfl⟩⟩ ?_ (ht:=ht);intro s2 I2 ⟨t1,hx2⟩;refine yz7 (X:=cxM P w K mg base ["self","push","step"] qual scope f cdv A outer s H) (i:=0) (j:=1) (v:=.int a) I2 he np hx2 hc rfl hdn lC L hsa n1 hrf rfl rfl (.inl l0) (.inl l1) rfl rfl ?_;intro s3 dx u1 ru1 I3 hx3 m3 D;refine xk8 (X:=cxM P w K mg base ["self","push","step"] qual scope f cdv A outer s H) (i:=0) (j:=2) (v:=.int b) (ns:=["push"]) I3 he hx3 hc rfl rfl m3 (Within.cons "push" u1 Within.nil) (by decide) D lC L hsa n2 hrf rfl rfl (.inl l0) (.inl l2) rfl rfl ?_;intro s4 u2 ru2 I4 hx4 m4;exact wpAny_execs_nil (done s4 dx u1 u2 t1 I4.os I4.bare I4.base I4.hok hx4 m4 ru1 ru2 D.fre D.new)
def XAt(h:Heap)(x:Addr)(C:Value)(od:Option Addr)(v c:Value):Prop:=∃o vs,h.get? x=some o/\o.cls=C/\o.dict=od/\o.data=.fields vs/\vs[1]?=some v/\vs[2]?=some c
def vb0(h:Heap)(T:Addr)(v:Value):Prop:=∃o vs,h.get? T=some o/\o.data=.fields vs/\vs[3]?=some v
structure Kp(fr:List Addr)(no:Addr->Prop)(h h':Heap):Prop where
 keep:∀b o,h.get? b=some o->b∉fr->¬no b->h'.get? b=some o
 slot:∀b o,h.get? b=some o->b∈fr->∃sl,h'.get? b=some { o with slots:=sl }
section
variable{fr:List Addr}{n1 n2:Addr->Prop}{h h1 h2:Heap}
def Kp.then(a:Kp fr n1 h h1)(b:Kp fr n2 h1 h2):Kp fr (λc=>n1 c\/n2 c) h h2 where
 keep:=λc o e hc hn=>b.keep c o (a.keep c o e hc λz=>hn (.inl z)) hc λz=>hn (.inr z)
 slot:=λc o e hc=>by
  obtain⟨l1,e1⟩:=a.slot c o e hc;obtain⟨l2,e2⟩:=b.slot c _ e1 hc;exact⟨l2,e2⟩
def Kp.sub(a:Kp fr n1 h h1)(k:∀b o,h.get? b=some o->n1 b->n2 b):Kp fr n2 h h1:=⟨λb o e hb hn=>a.keep b o e hb λz=>hn (k b o e z),a.slot⟩
def ya8(i:Nat)(v:Value)(ho:h.get? a=some o)(hd:o.data=.fields vs)(nf:a∉fr) :
 Kp fr (λb=>b=a) h (h.update a (Obj.mapFields (·.setIfInBounds i v)))/\(h.update a (Obj.mapFields (·.setIfInBounds i v))).get? a=some { o with data:=.fields (vs.setIfInBounds i v) }/\
  ∀b,b≠a->(h.update a (Obj.mapFields (·.setIfInBounds i v))).get? b=h.get? b:=by
 have ot:∀b,b≠a->(h.update a (Obj.mapFields (·.setIfInBounds i v))).get? b=h.get? b:=λb hb=>Cm0 _ _ (Ne.symm hb)
 refine⟨⟨λb u e _ hn=>(ot b hn).trans e,λb u e hb=>⟨u.slots,(ot b λz=>nf (z▸hb)).trans e⟩⟩,?_,ot⟩;have q:=Ce0 (Obj.mapFields (·.setIfInBounds i v)) ho (Obj.isFreed_of_fields (Obj.data_mapFields hd _));rw[q];obtain⟨oc,od,odt,osl⟩:=o;dsimp only at hd;subst hd;rfl
end
section
variable{M:Model}{A:Around}{E:Value->Shared->Prop}{s:Shared}{x T L:Addr}{C v c fl:Value}{od:Option Addr}{env:Env}{outer:List Env}{base:Heap}{Q:Unit->Shared->Prop}
def yb0(hx:XAt s.heap x C od (.ref T) c)(hT:vb0 s.heap T fl)(ne:T≠x)(nf:T∉fr)(k:∀h',Kp fr (λb=>b=T) s.heap h'->XAt h' x C od (.ref T) c->vb0 h' T .none->Q () { s with heap:=h' }):wpAny M A (setFlight (.ref x) none) Q E s:=by
 obtain⟨o,vs,h1,h2,h3,h4,h5,h6⟩:=hx;obtain⟨oT,ts,g1,g2,g3⟩:=hT;have sz:=(Bw0.mp g3).1;unfold setFlight;refine Aa1 (Ac1 h1 h4 h5 ?_);rw[if_pos (by simp)];refine wpAny_setField g1 g2 sz ?_;obtain⟨p1,p2,p3⟩:=ya8 (fr:=fr) 3 ((none:Option Addr).elim Value.none λf=>rawInt f) g1 g2 nf;exact k _ p1 ⟨o,vs,(p3 x (Ne.symm ne)).trans h1,h2,h3,h4,h5,h6⟩ ⟨_,_,p2,rfl,by simp[sz]⟩
def xi4{hn:Bool}(hfr:A.frames=some (env::outer))(hl:s.heap.FunFrames base (env::outer))(hf:env.frame=some L)(hx:XAt s.heap x C od v c)(k:∀h' T',Kp (frs (env::outer)) (λb=>b=x) s.heap h'->s.heap.get? T'=none->s.heap.objs.size<=T'->T'≠x->XAt h' x C od (.ref T') c->vb0 h' T' (rawInt L)->Q () { s with heap:=h' }) :
 wpAny M A (do let a <-frameOf env;let pl <-entryPlaceOf L hn;let b <-EntryCells.newEntry head a .none (rawInt L) .none pl;setField (.ref x) 1 b) Q E s:=by
 obtain⟨o,vs,h1,h2,h3,h4,h5,h6⟩:=hx;have xf:x∉frs (env::outer):=λm=>by
  obtain⟨_,u,hu,hn⟩:=hl.mem m;rw[h1] at hu;cases hu;exact hn vs h4
 refine Aa1 (wpAny_frameOf_fun hfr hl hf λg1 so=>Aa1 (wpAny_entryPlaceOf λpl hpl=>?_));unfold EntryCells.newEntry newFields;refine Aa1 (wpAny_newObj_type ?_ (hpl.sizeOk5 _ _ _ _ _));have e1:g1.get? x=some o:=(so.2.1 x xf).trans h1;have e2:=Ab0 (h:=g1) { cls:=.type "traceback",dict:=none,data:=.fields ([head,.ref L,.none,rawInt L,.none]++(if pl.isEmpty then List.replicate 6 Value.none else pl)).toArray } e1;have sz:=(Bw0.mp h5).1;have nT:g1.objs.size≠x:=By0 (Heap.lt_size e1);refine wpAny_setField e2 h4 sz ?_;obtain⟨p1,p2,p3⟩:=ya8 (fr:=frs (env::outer)) 1 (.ref g1.objs.size) e2 h4 xf;have up:Kp (frs (env::outer)) (λ_=>False) s.heap (g1.push { cls:=.type "traceback",dict:=none,data:=.fields ([head,.ref L,.none,rawInt L,.none]++(if pl.isEmpty then List.replicate 6 Value.none else pl)).toArray }):=
  ⟨λb u e hb _=>Ab0 _ ((so.2.1 b hb).trans e),λb u e _=>(so.2.2 b u e).imp λsl z=>Ab0 _ z⟩
 refine k _ g1.objs.size ((up.then p1).sub λb u _ z=>z.elim False.elim id) ?_ (Nat.le_of_eq so.1.symm) nT ⟨_,_,p2,h2,h3,rfl,by simp[sz],by rw[Bs0 (by decide)];exact h6⟩ ⟨_,_,(p3 _ nT).trans (Ak0 g1 rfl),rfl,?_⟩
 ·cases q:s.heap.get? g1.objs.size with
  | none=>rfl
  | some u=>exact absurd (so.1▸Heap.lt_size q) (Bc0 _)
 ·rcases hpl with rfl | ⟨_,_,_,_,_,_,_,rfl⟩<;>simp
def xs5(hfr:A.frames=some (env::outer))(hl:s.heap.FunFrames base (env::outer))(hf:env.frame=some L)(hx:XAt s.heap x C od v c)(hv:v=.none\/∃T,v=.ref T/\T≠x/\vb0 s.heap T .none)(k:∀h' T',Kp (frs (env::outer)) (λb=>b=x\/v=.ref b) s.heap h'->s.heap.get? T'=none->s.heap.objs.size<=T'->T'≠x->XAt h' x C od (.ref T') c->vb0 h' T' (rawInt L)->Q () { s with heap:=h' }) :
 wpAny M A (noteFrame (.ref x) env) Q E s:=by
 obtain⟨o,vs,h1,h2,h3,h4,h5,h6⟩:=id hx;unfold noteFrame;simp only[hf];refine Aa1 (Ac1 h1 h4 h5 ?_);rcases hv with rfl | ⟨T,rfl,ne,oT,ts,g1,g2,g3⟩
 ·rw[if_neg (by decide)]
  exact xi4 hfr hl hf hx λh' T' a b sz c d e=>k h' T' (a.sub λ_ _ _ z=>.inl z) b sz c d e
 ·rw[if_pos (by simp)]
  refine Aa1 (Ac1 g1 g2 g3 ?_);rw[if_neg (by simp[rawInt])];have tf:T∉frs (env::outer):=λm=>by
   obtain⟨_,u,hu,hn⟩:=hl.mem m;rw[g1] at hu;cases hu;exact hn ts g2
  refine Aa1 (wpAny_setField g1 g2 (Bw0.mp g3).1 ?_);obtain⟨p1,p2,p3⟩:=ya8 (fr:=frs (env::outer)) 3 Value.none g1 g2 tf;refine xi4 hfr (hl.of_keeps λb u e hn=>⟨u,(p3 b λz=>?_).trans e,rfl⟩) hf ⟨o,vs,(p3 x (Ne.symm ne)).trans h1,h2,h3,h4,h5,h6⟩ λh' T' a b sz c d e=>k h' T' ((p1.then a).sub λb u _ z=>?_) ?_ (by have q:=sz;rw[Heap.size_update] at q;exact q) c d e
  ·subst z
   rw[g1] at e;cases e;exact hn ts g2
  ·exact z.elim (λz=>.inr (z▸rfl)) .inl
  ·by_cases z:T'=T
   ·subst z
    rw[p2] at b;cases b
   ·rw[<-p3 T' z];exact b
def we5(hfr:A.frames=some (env::outer))(hl:s.heap.FunFrames base (env::outer))(hf:env.frame=some L)(hx:XAt s.heap x C od v c)(hv:v=.none\/∃T,v=.ref T/\T≠x/\vb0 s.heap T .none)(k:∀h' T',Kp (frs (env::outer)) (λb=>b=x\/v=.ref b) s.heap h'->s.heap.get? T'=none->s.heap.objs.size<=T'->T'≠x->XAt h' x C od (.ref T') c->vb0 h' T' .none->Q () { s with heap:=h' }) :
 wpAny M A (noteFrame (.ref x) env) (λ_ s2=>wpAny M A (setFlight (.ref x) none) Q E s2) E s:=by
 refine xs5 hfr hl hf hx hv λh1 T' a b sz c d e=>?_
 have tf:T'∉frs (env::outer):=λm=>by
  obtain⟨_,u,hu,_⟩:=hl.mem m;rw[b] at hu;cases hu
 refine yb0 (fr:=frs (env::outer)) d e c tf λh2 a2 d2 e2=>k h2 T' ((a.then a2).sub λb' u q z=>z.elim id λz=>?_) b sz c d2 e2
 subst z;rw[b] at q;cases q
end
def CXc(P:Program)(w:World)(cp:Value->Prop):CXT:=λouter H s E e s'=>
 ∃(x T:Addr) (C c:Value) (od:Option Addr) (H':Hp),e=.ref x/\s'.os=s.os/\AllBare s'.gens/\Un (frs outer) [] H H' s.heap s'.heap/\HOk P w H' s'.heap/\
  XAt s'.heap x C od (.ref T) c/\cp c/\vb0 s'.heap T .none/\T≠x/\(s.heap.get? x=none/\s.heap.get? T=none)/\(H' x=none/\H' T=none)/\E C od H'
abbrev CX2(P:Program)(w:World):CXT:=CXc P w λ_=>True
abbrev CX3(P:Program)(w:World):CXT:=CXc P w λc=>c=.none
section
variable{P:Program}{w:World}{fs:List Addr}{H H':Hp}{h h1 h2:Heap}{no:Addr->Prop}
def Un.kp(u:Un fs [] H H' h h1)(k:Kp fs no h1 h2)(hn:∀b o,h.get? b=some o->¬no b):Un fs [] H H' h h2 where
 keep:=λb o e n hb hx=>k.keep b o (u.keep b o e n hb hx) hb (hn b o e)
 slot:=λb o e n hb hx=>by
  obtain⟨l1,e1⟩:=u.slot b o e n hb hx;obtain⟨l2,e2⟩:=k.slot b _ e1 hb;exact⟨l2,e2⟩
 free:=u.free
 there:=λb o e hx=>by
  obtain⟨o',e1⟩:=u.there b o e hx;by_cases hb:b∈fs
  ·obtain⟨l,e2⟩:=k.slot b _ e1 hb
   exact⟨_,e2⟩
  ·exact⟨o',k.keep b o' e1 hb (hn b o e)⟩
 tups:=u.tups
 frzs:=u.frzs
 tbls:=u.tbls
def HOk.kp(ok:HOk P w H h1)(k:Kp fs no h1 h2)(hn:∀b,no b->H b=none)(hf:∀b∈fs,H b=none):HOk P w H h2:=λa o q=>(ok a o q).stay (λb u hb z=>by
 have live:H b≠none:=by
  rcases hb with rfl | hb
  ·rw[q];simp
  ·rw[hb];simp
 exact k.keep b u z (λm=>live (hf b m)) λm=>live (hn b m)) (λ_ q=>q) λ_ _ q=>q
theorem HOk.untracked(ok:HOk P w H h)(e:h.get? b=none):H b=none:=by
 cases q:H b with
 | none=>rfl
 | some u=>
   obtain⟨o,z⟩:=(ok b u q).has;rw[e] at z;cases z
end
section
variable{X:Cx}{A3:List (Addr×Obj)}{σ:St}{H:Hp}{s:Shared}
def CXc.weak(h:∀c,cp c->cq c)(z:CXc P w cp outer H s E e s'):CXc P w cq outer H s E e s':=by
 obtain⟨x,T,C,c,od,H',a,b,d,f,g,i,j,k⟩:=z;exact⟨x,T,C,c,od,H',a,b,d,f,g,i,h c j,k⟩
theorem Inv.new0(I:Inv X A3 σ H s)(hex:X.ex=[])(e:s.heap.get? b=none):X.s₀.heap.get? b=none:=by
 cases q:X.s₀.heap.get? b with
 | none=>rfl
 | some o=>
   obtain⟨o',z⟩:=I.base.there b o q (by rw[hex];simp);rw[e] at z;cases z
def wf2(I:Inv X A3 σ H s)(hst:X.stack=X.env::X.outer)(hfr:X.env.frame=some X.env.locals)(hex:X.ex=[])(hx:XAt s.heap x C od v c)(hcp:cp c)(hv:v=.none\/∃T,v=.ref T/\T≠x/\vb0 s.heap T .none)(nx:X.s₀.heap.get? x=none)(fx:H x=none)(nT:∀T,v=.ref T->X.s₀.heap.get? T=none/\H T=none)(hE:E C od H) :
 wpAny M X.A (leaving X.env (.ref x)) (λ_ s'=>CXc X.prog X.w cp X.outer X.H₀ X.s₀ E (.ref x) s') E' s:=by
 have fs:∀b,b∈frs X.stack↔b=X.env.locals\/b∈X.fs:=λb=>by
  rw[hst];unfold Cx.fs frs;rw[Bv0,hfr];exact Aj0
 unfold leaving;refine Aa1 (we5 (by rw[I.ok.frames,hst]) (by rw[<-hst];exact I.stack) hfr hx hv λh' T' kp n1 _ ne hx' hT'=>?_);rw[<-hst] at kp;have neL:∀b o,X.s₀.heap.get? b=some o->b≠X.env.locals:=λb o e=>Ar0 (Ap0 (Heap.lt_size e) I.ok.above)
 have out:∀b o,X.s₀.heap.get? b=some o->¬(b=x\/v=.ref b):=λb o e z=>by
  rcases z with rfl | z
  ·rw[nx] at e;cases e
  ·rw[(nT b z).1] at e;cases e
 have kp2:Kp X.fs (λb=>(b=x\/v=.ref b)\/b=X.env.locals) s.heap h':=⟨λb o e hb hn=>kp.keep b o e (λm=>((fs b).mp m).elim (λz=>hn (.inr z)) hb) λz=>hn (.inl z),λb o e hb=>kp.slot b o e ((fs b).mpr (.inr hb))⟩;have un:Un X.fs [] X.H₀ H X.s₀.heap h':=by
  have b:=I.base;rw[hex] at b;exact b.kp kp2 λb o e z=>z.elim (out b o e) (neL b o e)
 have dead:∀b,(b=x\/v=.ref b)->H b=none:=λb z=>by
  rcases z with rfl | z
  ·exact fx
  ·exact(nT b z).2
 exact⟨x,T',C,c,od,H,rfl,I.os,I.bare,un,I.hok.kp kp dead I.stkFree,hx',hcp,hT',ne,⟨nx,I.new0 hex n1⟩,⟨fx,I.hok.untracked n1⟩,hE⟩
def xa6{P:Program}{w:World}{K:PySem.W.Frag}{mg:Str->Option Value}{base:Heap}{N:List Str}{qual:Str}{scope:Scope}{f:Addr}{cd:Value}{A:Around}{outer:List Env}{s:Shared}{H:Hp}{E:XK}{cp:Value->Prop} :
 yy8 (CXc P w cp) (wx0 (CXc P w cp) P w K mg base N qual scope f cd A outer s H E) E:=λA3 σ H1 s1 e s' I c=>by
 obtain⟨x,T,C,cv,od,H',rfl,os,bare,un,hok,hx,hcp,hT,ne,⟨nx,nT⟩,⟨fx,fT⟩,hE⟩:=c;have I':=I.call' os un hok bare (ch:=[]) λb z=>absurd z (by simp)
 exact wf2 I' rfl rfl rfl hx hcp (.inr ⟨T,rfl,ne,hT⟩) (I.new0 rfl nx) fx (λT' z=>by cases z;exact⟨I.new0 rfl nT,fT⟩) hE
def xw1(I:Inv X A3 σ H s)(hst:X.stack=X.env::X.outer)(hfr:X.env.frame=some X.env.locals)(c:CXc X.prog X.w cp X.stack H s E e s')(k:∀(x T:Addr) (C cv:Value) (od:Option Addr) (H':Hp) (h3:Heap),e=.ref x->E C od H'->XAt h3 x C od (.ref T) cv->cp cv->vb0 h3 T .none->T≠x->T∉frs X.stack->H' x=none->Inv X A3 σ H' { s' with heap:=h3 }->
  (∀h4,Kp (frs X.stack) (λb=>b=T) h3 h4->Inv X A3 σ H' { s' with heap:=h4 })->wpAny M X.A (handleBy (.ref x) X.env hs) Q E2 { s' with heap:=h3 }) :
 wpAny M X.A (noteFrame e X.env) (λ_ s2=>wpAny M X.A (setFlight e none) (λ_ s3=>wpAny M X.A (handleBy e X.env hs) Q E2 s3) E2 s2) E2 s':=by
 obtain⟨x,T,C,cv,od,H',rfl,os,bare,un,hok,hx,hcp,hT,ne,⟨nx,nT⟩,⟨fx,fT⟩,hE⟩:=c;have I0:Inv X A3 σ H' s':=I.call' os un hok bare (ch:=[]) λb z=>absurd z (by simp)
 refine we5 (by rw[I.ok.frames,hst]) (by rw[<-hst];exact I0.stack) hfr hx (.inr ⟨T,rfl,ne,hT⟩) λh3 T' kp n1 _ ne' hx' hT'=>?_
 rw[<-hst] at kp;have nT':s.heap.get? T'=none:=by
  cases q:s.heap.get? T' with
  | none=>rfl
  | some o=>
    obtain⟨o',z⟩:=un.there T' o q (by simp);rw[n1] at z;cases z
 have dead:∀b,(b=x\/Value.ref T=.ref b)->H' b=none:=λb z=>by
  rcases z with rfl | z
  ·exact fx
  ·cases z;exact fT
 have old:∀b o,s.heap.get? b=some o->¬(b=x\/Value.ref T=.ref b):=λb o e z=>by
  rcases z with rfl | z
  ·rw[nx] at e;cases e
  ·cases z;rw[nT] at e;cases e
 have fr:∀b∈frs X.stack,H' b=none:=I0.stkFree;have un3:=un.kp kp old;have hok3:=hok.kp kp dead fr;have tf:T'∉frs X.stack:=λm=>by
  obtain⟨_,u,hu,_⟩:=I0.stack.mem m;rw[n1] at hu;cases hu
 refine k x T' C cv od H' h3 rfl hE hx' hcp hT' ne' tf fx ?_ λh4 k4=>?_
 ·exact I.call' (s':={ s' with heap:=h3 }) os un3 hok3 bare (ch:=[]) λb z=>absurd z (by simp)
 ·exact I.call' (s':={ s' with heap:=h4 }) os (un3.kp k4 λb o e z=>by subst z;rw[nT'] at e;cases e) (hok3.kp k4 (λb z=>by subst z;exact hok.untracked n1) fr) bare (ch:=[]) λb z=>absurd z (by simp)
end
section
variable{P:Program}{w:World}{H:Hp}{h:Heap}{a:Addr}{o:HO}
def HOk.track(ok:HOk P w H h)(n:H a=none)(new:ww4 P w (upd H a o) h a o):HOk P w (upd H a o) h:=λb u e=>by
 by_cases hb:b=a
 ·subst hb;rw[zb3] at e;cases e;exact new
 ·rw[za9 hb] at e
  refine(ok b u e).stay (λc v _ q=>q) (λc q=>?_) λc xs q=>?_<;>(rw[za9 (zb1 q n)];exact q)
open H in
def wr1{K:PySem.W.Frag}{N:Addr}{m:Str->Option Value}{n:Str}{v:Value}(X:K.In h)(G:h.Ns N m)(q:nsIn K N n=some (some v)):m n=some v:=by
 obtain⟨ob,es,ep,ho,hd,_,look⟩:=G;unfold nsIn at q;split at q
 ·rename_i lk
  have same:=(X _ _ lk).symm.trans ho;cases same;cases hd;split at q
  ·rename_i en found
   cases q;refine(look n).symm.trans ?_;show ((_:Array DictEntry).find? _).map _=_;rw[<-Array.find?_toList];exact congrArg _ found
  ·split at q<;>cases q
 ·cases q
end
section
variable{X:Cx}{CX:CXT}{k:Nat}{f:Addr}{fd:FuncData}{ps:List Str}{sp:Sp}{E:XK}{x:Str}{p pos:Pos}{e:Expr}{es:List Expr}{t:TA}{A3:List (Addr×Obj)}{σ:St}{H:Hp}{s:Shared}
open H in
theorem vy6{Q:VK}{i:Nat}(F:wy0 X.prog X.w X.K X.mg X.base CX k f fd ps sp)(hr:wv8 k X.A)(hv:PE X (.Name x p) (vb2 i))(hi:σ[i]?=some (some (.ref f)))(hk:keepIn X.K (.ref f)=true)(hb:wz7 X.K fd ps [])(ha:PA X (e::es) t)(I:Inv X A3 σ H s)(h:t σ H λvs H1=>sp vs H1 Q E)(hno:∀e s',¬X.xe e s')(he:starEach (e::es) X.env=(false,eval e X.env)::starEach es X.env:=by rfl)(hpl:(backTo pos (starEach es X.env)).any (·.1)=false:=by rfl) :
 wpAny (model X.prog X.w) X.A (eval (.Call (.Name x p) (e::es) [] pos) X.env) (EP X A3 σ Q) (λe s'=>∃H1 s1,Inv X A3 σ H1 s1/\CX X.stack H1 s1 E e s') s:=by
 refine wpAny_Call_Name_kw (Ae1 (hv A3 s σ H (λv H'=>v=.ref f/\H'=H) I ⟨.ref f,hi,rfl,rfl⟩) (λu0 s0 hI131=>?_) λe s1 z=>(hno e s1 z).elim);obtain⟨v0,H0,I0,r0,q1,q2⟩:=hI131;subst q1 q2;obtain rfl:u0=Value.ref f:=r0;refine PySem.W.callWith_K (h₀:=X.base) I.ok.mod.kin hk (Ae1 (ha pos A3 s0 σ H0 _ I0 h) (λus s1 ⟨vs,H1,I1,r,q⟩=>⟨I1.kIn,?_⟩) λe s1 z=>(hno e s1 z).elim) he hpl;have hl:us.length=ps.length:=by rw[<-r.length];exact F.len _ _ _ _ q
 have bt:=hb s1 us I1.kIn (by rw[Az0];exact hl);rw[Az0] at bt;refine wpAny_call (codeAny_mono (F.run X.A X.stack s1 H1 ⟨us,[]⟩ us vs Q E hr I1.env0 bt r q) λr2 s2 hq=>?_);cases r2 with
 | error e=>exact⟨H1,s1,I1,hq⟩
 | ok fl=>
   cases fl with
   | ret u=>exact I1.after hq
   | next=>exact False.elim hq
   | brk=>exact False.elim hq
   | cont=>exact False.elim hq
open H in
def uc1{cp:Value->Prop}{Q:VK}{R:Flow->Shared->Prop}{ia ic inn:Nat}{a c n b:Str}{C1 C0:Addr}{bm bm0:List Value}{call:Expr}{pa pc pn pb p1 p2 p3 p4:Pos}{wx2:List Stmt}(I:Inv X A3 σ H s)(hcall:wpAny (model X.prog X.w) X.A (eval call X.env) (EP X A3 σ Q) (λe s'=>∃H1 s1,Inv X A3 σ H1 s1/\CXc X.prog X.w cp X.stack H1 s1 E e s') s)(hst:X.stack=X.env::X.outer)(hfr:X.env.frame=some X.env.locals)(hN:X.N.Nodup)(ja:X.N[ia]?=some a)(jc:X.N[ic]?=some c)(jn:X.N[inn]?=some n)(la:X.env.kindOf a=some .local)(lc:X.env.kindOf c=some .local)(ln:X.env.kindOf n=some .local)(gb:Gl X b)(mb:X.mg b=some (.ref C0))(k1:vm6 X.K C1 bm)(k0:vm6 X.K C0 bm0)(hbe:(Value.ref C0::bm0).contains (.type "BaseException")=true)(hin:(Value.ref C1::bm).contains (.ref C0)=true)(hE:∀C od H',E C od H'->C=.ref C1)(ok:∀v H' s',Inv X A3 (σ.set ia (some v)) H' s'->Q v H'->wpAny (model X.prog X.w) X.A (execs wx2 X.env) R X.xe s')(ex:∀(y:Addr) (oe:Obj) H' s',Inv X ((y,oe)::A3) (((σ.set inn (some (.ref y))).set ic (some (.ref y))).set inn none) H' s'->oe.cls=.ref C1->(∃vs,oe.data=.fields vs)->E (.ref C1) oe.dict H'->wpAny (model X.prog X.w) X.A (execs wx2 X.env) R X.xe s')(hdn:(b == ("__debug__" : Str))=false:=by decide)(hdv:(n == ("__debug__" : Str))=false:=by decide)(hcv:(n == ("__classdict__" : Str))=false:=by decide)(hs:swapsWith call (some (.Name a pa)) p1.line X.env=pure false:=by rfl)(hs2:swapsWith (.Name n pn) (some (.Name c pc)) p2.line X.env=pure false:=by rfl) :
 wpAny (model X.prog X.w) X.A (execs (.Try [.Assign [.Name a pa] call p1] [.ExceptHandler (some (.Name b pb)) (some n) [.Assign [.Name c pc] (.Name n pn) p2] p3] [] [] p4::wx2) X.env) R X.xe s:=by
 refine wpAny_execs_cons (wpAny_Try_except (wpAny_execs_cons (wpAny_Assign_Name (Ae1 hcall (λv s1 hI133=>?_) λe s1 hI132=>?_) hs)))
 ·obtain⟨y,H1,I1,r1,q1⟩:=hI133
  refine zh1 I1 hN ja (.inl la) r1 (λs2 I2=>?_) (.inr la);exact wpAny_execs_nil (wpAny_execs_nil (ok y H1 s2 I2 q1))
 ·obtain⟨H1,s0,I1,c1⟩:=hI132
  refine xw1 I1 hst hfr c1 λy T C cv od H' h3 hy hEC hx hcp hT ne tf fy I3 back=>?_
  obtain rfl:=hE _ _ _ hEC;obtain⟨oe,vs,hoe,hoc,hod,hdat,hv1,_⟩:=id hx;obtain⟨nm,q,N,bs,hd,sn,sub,ab,col,dd,c0,c1,c2,c3,c5,id1,hC1⟩:=k1;obtain⟨nm',q',N',bs',hd',sn',sub',ab',col',dd',d0,d1,d2,d3,d5,id0,hC0⟩:=k0;refine wpAny_handleBy_cons (codeAny_handlers_test (zu9 (X:=X.mark (.ref y)) (I3.mark _) gb mb ?_ hdn)) (by intro q;cases q);refine yn5 (I3.kIn _ _ hC1) (I3.kIn _ _ hC0) hoe hoc hbe hin (codeAny_handlers_suite_as ?_);refine yb0 (fr:=frs X.stack) hx hT ne tf λh4 k4 hx4 hT4=>?_
  have I4:Inv X A3 σ H' { s1 with heap:=h4 }:=back h4 k4;obtain⟨oe4,vs4,hoe4,hoc4,hod4,hdat4,_,_⟩:=hx4;have I5:Inv X ((y,oe4)::A3) σ H' { s1 with heap:=h4 }:=I4.pinE (p:=(y,oe4)) hoe4 fy ⟨vs4,hdat4⟩ hst hfr;refine zh1 I5 hN jn (.inl ln) (v:=.ref y) rfl (λs5 I6=>?_) (.inr ln);have hin':inn<σ.length:=by rw[I.len];exact(Ac0.mp jn).1
  have I7:Inv (X.mark (.ref y)) ((y,oe4)::A3) (σ.set inn (some (.ref y))) H' s5:=I6.mark _;have run:=zp6 (zl6 (X:=X.mark (.ref y)) (pos:=p2) (pos':=pc) hN jc (.inl lc) (zu1 (pos:=pn) jn (.inl ln) hdv hcv) hs2 (.inr lc)) ((y,oe4)::A3) s5 (σ.set inn (some (.ref y))) H'
   { nx:=λσ2 H2=>σ2=(σ.set inn (some (.ref y))).set ic (some (.ref y))/\H2=H',rt:=λ_ _=>False } I7 ⟨.ref y,Bk0 hin',rfl,rfl⟩
  refine Ae1 run (λfl6 s6 z=>?_) λ_ _ z=>False.elim z
  cases fl6 with
  | next=>
    obtain⟨σ6,H6,I8,rfl,rfl⟩:=z;exact yt3 (I8.unmark I.ok) hN jn ln λs7 I9=>ex y oe4 H6 s7 I9 hoc4 ⟨vs4,hdat4⟩ (hod4▸hEC)
  | ret u=>obtain⟨_,_,_,_,_,z⟩:=z;exact z.elim
  | brk=>obtain⟨_,_,_,z⟩:=z;exact z.elim
  | cont=>obtain⟨_,_,_,z⟩:=z;exact z.elim
end
def vq2(K:PySem.W.Frag)(mg:Str->Option Value)(C f:Addr)(fd:FuncData):Prop:=
 ∀(P:Program) (w:World) (base:Heap) (k:Nat) (A:Around) (outer:List Env) (s:Shared) (H:Hp) (args:Args) (us:List Value) (R:Result->Shared->Prop) (oe:Obj) (fs:Array Value) (t0 e:Addr) (a b:Int),
  wv8 (k+1) { A with handled:=none }->vi3 P w K mg base A outer s H->BindsTo s fd args ((["self","push","step"]:List Str).zip us)->wv6 [.ref e,.int a,.int b] us->
  s.heap.get? e=some oe->oe.cls=.ref C->oe.data=.fields fs->oe.dict=none->fs[0]?=some (.ref t0)->base.get? e=none->e∉frs outer->H e=none->a.natAbs.log2<1920->b.natAbs.log2<1920->
  (∀s' dx u1 u2 (t1:Addr),s'.os=s.os->AllBare s'.gens->Un (frs outer) [e] H H s.heap s'.heap->HOk P w H s'.heap->s'.heap.get? e=some { oe with data:=.fields (fs.setIfInBounds 0 (.ref t1)),dict:=some dx }->
   s'.heap.Ns1 dx (λy=>if y = "step" then some u2 else if y = "push" then some u1 else none)->wv5 (.int a) u1->wv5 (.int b) u2->H dx=none->s.heap.objs.size<=dx->R (.ok (.ret .none)) s')->
  codeAny (model P w) A (.call (.ref f) args) R s
structure vh7(K:PySem.W.Frag)(mg:Str->Option Value)(C:Addr):Prop where
 ex:∃(nm q:Str) (N:Addr) (bs bm:List Value) (sn:List Str) (sub:List Value) (ab:Bool) (col:Option Bool) (dd:Option Addr) (k0 k1 k2 k3 k5:Option Value) (f:Addr) (fd:FuncData) (of:Obj),
  K.lookup C=some (excClassObj nm q C N bs bm true sn sub ab col dd k0 k1 k2 k3 k5 "ValueError.__new__")/\PySem.W.nsOkIn K N=true/\nsIn K N "__init__" = some (some (.ref f))/\PySem.W.tailIn K bmV bm=true/\
   bm.contains (.type "BaseException")=true/\wz7 K fd ["self","push","step"] []/\K.lookup f=some of/\of.cls=.type "function"/\vq2 K mg C f fd
 keep:keepIn K (.ref C)=true
abbrev xdB(a b:Int):HO:=.xd [("step",.int b),("push",.int a)]
section
variable{X:Cx}{C:Addr}{k:Nat}{A3:List (Addr×Obj)}{σ:St}{H:Hp}{s:Shared}
def xg5{a b:Int}(B:vh7 X.K X.mg C)(hr:wv8 (k+2) { X.A with handled:=none })(I:Inv X A3 σ H s)(r:wv6 [.int a,.int b] us)(ha:a.natAbs.log2<1920)(hb:b.natAbs.log2<1920)(q:∀s' x dx oe vs,Inv X A3 σ (upd H dx (xdB a b)) s'->s'.heap.get? x=some oe->oe.cls=.ref C->oe.dict=some dx->oe.data=.fields vs->vs[1]?=some .none->vs[2]?=some .none->4<vs.size->s.heap.get? x=none->upd H dx (xdB a b) x=none->H dx=none->s'.os=s.os->AllBare s'.gens->Un (frs X.stack) [] H (upd H dx (xdB a b)) s.heap s'.heap->HOk X.prog X.w (upd H dx (xdB a b)) s'.heap->Q (.ref x) s') :
 wpAny (model X.prog X.w) X.A (call (.ref C) us) Q X.xe s:=by
 obtain⟨nm,qn,N,bs,bm,sn,sub,ab,col,dd,k0,k1,k2,k3,k5,f,fd,of,lk,ok,ni,tl,hbe,bi,lf,hfc,ib⟩:=B.ex;obtain⟨h,g,d,t,os⟩:=s;have hl:us.length=2:=r.length.symm;have nsB:X.base.Ns N (X.base.nsMap N):=.of_isNs (PySem.W.isNs_of_in I.mod.kin ok);refine wc9 F.excBase_ValueError (PySem.W.tail_of_in I.kIn tl) (I.kIn _ _ lk) (nsB.keeps I.bk) (wr1 I.mod.kin nsB ni) (by rw[hl];decide) (I.kIn _ _ lf) hfc ?_;have kp:∀b o,h.get? b=some o->(zx6 h C us).get? b=some o:=λb o e=>Ab0 _ (Ab0 _ e)
 have I1:Inv X A3 σ H ⟨zx6 h C us,g,d,t,os⟩:=I.kept (t':=t) kp;have big:∀b o,h.get? b=some o->b<h.objs.size+1:=λb o e=>Nat.lt_succ_of_lt (Heap.lt_size e)
 have newx:h.get? (h.objs.size+1)=none:=by
  cases z:h.get? (h.objs.size+1) with
  | none=>rfl
  | some o=>exact absurd (big _ _ z) (Bc0 _)
 have he:(zx6 h C us).get? (h.objs.size+1)=some { cls:=.ref C,data:=.fields #[.ref h.objs.size,.none,.none,.none,.bool false,.none] }:=by heap_get
 have fx:H (h.objs.size+1)=none:=I.hok.fresh (Nat.le_succ _);have bt:=bi ⟨zx6 h C us,g,d,t,os⟩ (.ref (h.objs.size+1)::us) I1.kIn (by rw[Az0,Au0,hl];rfl);rw[Az0] at bt;refine ib X.prog X.w X.base k _ X.stack ⟨zx6 h C us,g,d,t,os⟩ H _ _ _ _ _ h.objs.size (h.objs.size+1) a b ⟨rfl,(hr.make C us []).dp,(hr.make C us []).un,(hr.make C us []).gd⟩ (I1.env0.make C us []) bt (.cons rfl r) he rfl rfl rfl rfl ?_ ?_ fx ha hb ?_
 ·cases z:X.base.get? (h.objs.size+1) with
  | none=>rfl
  | some o=>have:=I.bk _ _ z;rw[newx] at this;cases this
 ·intro m
  obtain⟨_,o,z,_⟩:=I.stack.mem m;rw[newx] at z;cases z
 ·intro s' dx u1 u2 t1 hos bare un hok he' ns r1 r2 fdx nd
  have lt:∀b o,h.get? b=some o->b≠dx:=λb o e z=>by
   subst z;exact absurd (Ap0 (Heap.lt_size (kp _ _ e)) nd) (Bc0 _)
  have nx:∀b o,h.get? b=some o->b∉[h.objs.size+1]:=λb o e z=>by
   rw[Ae0] at z;subst z;rw[newx] at e;cases e
  have un':Un (frs X.stack) [] H (upd H dx (xdB a b)) h s'.heap:={
   keep:=λc o e n hc _=>un.keep c o (kp c o e) n hc (nx c o e)
   slot:=λc o e n hc _=>un.slot c o (kp c o e) n hc (nx c o e)
   free:=λc o e n _=>by rw[za9 (lt c o e)];exact un.free c o (kp c o e) n (nx c o e)
   there:=λc o e _=>un.there c o (kp c o e) (nx c o e)
   tups:=λc xs z=>by rw[za9 (zb1 z fdx)];exact un.tups c xs z
   frzs:=λc o u z=>by rw[za9 (zb1 z fdx)];exact un.frzs c o u z
   tbls:=λc ps z=>by rw[za9 (zb1 z fdx)];exact un.tbls c ps z }
  have hok':HOk X.prog X.w (upd H dx (xdB a b)) s'.heap:=hok.track fdx ⟨_,ns,λy=>by
   by_cases y1:y = "step"
   ·subst y1
    exact r2
   ·by_cases y2:y = "push"
    ·subst y2
     exact r1
    ·have z1:(y == ("step" : Str))=false:=beq_eq_false_iff_ne.mpr y1
     have z2:(y == ("push" : Str))=false:=beq_eq_false_iff_ne.mpr y2;simp only[List.lookup,z1,z2,if_neg y1,if_neg y2];trivial⟩
  have I2:Inv X A3 σ (upd H dx (xdB a b)) s':=I.call' hos un' hok' bare (ch:=[]) λb z=>absurd z (by simp)
  have nex:h.objs.size+1≠dx:=λz=>by
   have:=Heap.lt_size he;rw[z] at this;exact absurd (Ap0 this nd) (Bc0 _)
  exact⟨rfl,q s' (h.objs.size+1) dx _ _ I2 he' rfl rfl rfl rfl rfl (by simp) newx (by rw[za9 nex];exact fx) fdx hos bare un' hok'⟩
def xp9{E:XK}{n:Str}{e1 e2:Expr}{t:TA}{np cp pos:Pos}(B:vh7 X.K X.mg C)(hr:wv8 (k+2) X.A)(hex:X.ex=[])(hg:Gl X n)(hm:X.mg n=some (.ref C))(ha:PA X [e1,e2] t)(md:∀(A3:List (Addr×Obj)) (σ:St) (H:Hp) (s:Shared) (x:Addr) (od:Option Addr),Inv X A3 σ H s->XAt s.heap x (.ref C) od .none .none->X.s₀.heap.get? x=none->H x=none->E (.ref C) od H->X.xe (.ref x) s)(hs:starEach [e1,e2] X.env=(false,eval e1 X.env)::starEach [e2] X.env:=by rfl)(hpl:(backTo cp (starEach [e2] X.env)).any (·.1)=false:=by rfl)(hd:(n == ("__debug__" : Str))=false:=by decide) :
 PS X (.Raise (some (.Call (.Name n np) [e1,e2] [] cp)) none pos) (λ_ σ H=>t σ H λvs H1=>∃a b,vs=[.int a,.int b]/\a.natAbs.log2<1920/\b.natAbs.log2<1920/\∀dx,H1 dx=none->E (.ref C) (some dx) (upd H1 dx (xdB a b))):=by
 intro A3 s σ H D I h;obtain⟨nm,qn,N,bs,bm,sn,sub,ab,col,dd,k0,k1,k2,k3,k5,f,fd,of,lk,ok,ni,tl,hbe,bi,lf,hfc,ib⟩:=id B.ex;rw[arm_exec_Raise];refine Aa1 (wpAny_standAt (yp7 (C:=C) (nm:=nm) (q:=qn) (N:=N) (bs:=bs) (bm:=bm) (hd:=true) (sn:=sn) (sub:=sub) (ab:=ab) (col:=col) (dd:=dd) (k0:=k0) (k1:=k1) (k2:=k2) (k3:=k3) (k5:=k5) (newId:="ValueError.__new__") hbe hr.hd ?_));refine Aa1 (Ae1 (Q:=λv s1=>∃(e:Addr) (oe:Obj),v=.ref e/\s1.heap.get? C=some (excClassObj nm qn C N bs bm true sn sub ab col dd k0 k1 k2 k3 k5 "ValueError.__new__")/\s1.heap.get? e=some oe/\oe.cls=.ref C/\(∃vs,oe.data=.fields vs/\vs[1]?=some .none)/\X.xe (.ref e) s1) ?_ (λv s3 h3=>Aa1 (wpAny_standAt (Ab1 h3))) λ_ _ z=>z);refine wpAny_Call_Name_kw (zu9 I hg hm ?_ hd);refine PySem.W.callWith_K (h₀:=X.base) I.ok.mod.kin B.keep (thn (ha cp A3 s σ H _ I h) λus s1 ⟨vs,H1,I1,r,a,b,ev,la,lb,q⟩=>⟨I1.kIn,?_⟩) hs hpl;subst ev;refine xg5 (a:=a) (b:=b) B ⟨rfl,hr.dp,hr.un,hr.gd⟩ I1 r la lb λs' x dx oe vs I2 hx hc hdd hdat hv hv2 _ nx fx fdx _ _ _ _=>⟨x,oe,rfl,I2.kIn _ _ lk,hx,hc,⟨vs,hdat,hv⟩,?_⟩
 exact md A3 σ _ s' x (some dx) I2 ⟨oe,vs,hx,hc,hdd,hdat,hv,hv2⟩ (I1.new0 hex nx) fx (q dx fdx)
def uc2(y dx:Addr)(name:Str)(ta:TE):TE:=λσ H Q=>ta σ H λv H1=>∃fs i,v=.ref y/\H1 dx=some (.xd fs)/\fs.lookup name=some (.int i)/\Q (.int i) H1
theorem yq2{nm q:Str}{N:Addr}{bs bm:List Value}{sn:List Str}{sub:List Value}{ab:Bool}{col:Option Bool}{dd:Option Addr}{k0 k1 k2 k3 k5:Option Value}{id1:String}{y dx:Addr}{oe:Obj}{vs:Array Value}{e:Expr}{name:Str}{pos:Pos}{ta:TE}(hp:(y,oe)∈X.pn)(hc:oe.cls=.ref C)(hd:oe.dict=some dx)(hdat:oe.data=.fields vs)(lk:X.K.lookup C=some (excClassObj nm q C N bs bm true sn sub ab col dd k0 k1 k2 k3 k5 id1))(L:va3 X.K C)(hn:PySem.W.findIn X.K (.ref C) name=some none)(he:PE X e ta)(hb:attributeBase e name X.env (eval e X.env)=eval e X.env:=by rfl):PE X (.Attribute e name pos) (uc2 y dx name ta):=by
 intro A3 s σ H Q I h;refine wm0 hb (thn (he A3 s σ H _ I h) λu s1 hI134=>?_);obtain⟨v,H1,I1,r,fs,i,ev,ed,lu,q⟩:=hI134;subst ev;obtain rfl:u=Value.ref y:=r;obtain⟨mA,n1,rel⟩:=(show ww4 X.prog X.w H1 s1.heap dx (.xd fs) from I1.hok dx _ ed);have z:=rel name;rw[lu] at z;cases hv:mA name with
 | none=>rw[hv] at z;exact z.elim
 | some u=>
   rw[hv] at z;obtain⟨tk,rfl⟩:=(show ∃t,u=Value.int i t from z);obtain⟨h1,g1,d1,t1,os1⟩:=s1;exact wg5 (I1.kIn _ _ lk) L I1.kIn hn (I1.pin _ (Bd0 _ hp)).1 hc hdat hd (Heap.Ns1.ns n1) hv (λid z=>nomatch z) ⟨.int i,H1,I1.tok _,⟨tk,rfl⟩,q⟩
end
def exB(C:Addr)(E:XK)(x:Exn)(H:Hp):Prop:=∀a b,x.args=[.int a,.int b]->∀dx,H dx=none->E (.ref C) (some dx) (upd H dx (xdB a b))
abbrev cxB(K:PySem.W.Frag)(H:Hp)(C:Addr)(E:XK):Dx W0:=⟨K,H,λx _ H'=>exB C E x H',λ_=>False⟩
def ym8(n:Str)(l:List D):Option Exn:=match l with
 | [.int a,.int b]=>if a.natAbs.log2<1920/\b.natAbs.log2<1920 then some ⟨n,[.int a,.int b]⟩ else none
 | _=>none
def xa0(S:Type)(n:Str)(f:FnA S):FnS S:=λρ st=>(f ρ st).bind λl st1=>match ym8 n l with
 | some x=>.exc x st1
 | none=>.bad
open H in
def xa8{n:Str}(h:ym8 n l=some x):∃a b:Int,l=[.int a,.int b]/\x=⟨n,[.int a,.int b]⟩/\a.natAbs.log2<1920/\b.natAbs.log2<1920:=by
 unfold ym8 at h;split at h
 ·rename_i a b
  split at h
  ·rename_i z
   cases h;exact⟨a,b,rfl,rfl,z.1,z.2⟩
  ·cases h
 ·cases h
def xj6{S:Type}{n:Str}{f:FnA S}{ρ:Rho}{st:S}{Q:Fl->S->Prop}{E:Exn->S->Prop}:wpR (xa0 S n f ρ st) Q E↔wpR (f ρ st) (λl st1=>∃x,ym8 n l=some x/\E x st1) E:=by
 unfold xa0;rw[za4];constructor<;>intro h<;>refine za8 h (λl st1 q=>?_) λ_ _ q=>q
 ·cases o:ym8 n l with
  | none=>rw[o] at q;exact q.elim
  | some x=>rw[o] at q;exact⟨x,rfl,q⟩
 ·obtain⟨x,o,q⟩:=q
  rw[o];exact q
def vw1{K:PySem.W.Frag}{A:Addr->Prop}{H:Hp}{a b:Int}{vs:List V}(h:IsL K A H [.int a,.int b] vs):vs=[.int a,.int b]:=by
 obtain⟨v,r,rfl,i,j⟩:=IsL.cons.mp h;obtain⟨v',r',rfl,i',j'⟩:=IsL.cons.mp j;rw[IsL.nil.mp j',Is.int_iff.mp i,Is.int_iff.mp i']
section
variable{X:Cx}{C:Addr}{k:Nat}{E:XK}{n:Str}{S:Type}{W:Wd S}{c:Dx W}
def vq1(X:Cx)(C:Addr)(E:XK):Prop:=∀(A3:List (Addr×Obj)) (σ:St) (H:Hp) (s:Shared) (x:Addr) (od:Option Addr),Inv X A3 σ H s->XAt s.heap x (.ref C) od .none .none->X.s₀.heap.get? x=none->H x=none->E (.ref C) od H->X.xe (.ref x) s
def xm3{cp:Value->Prop}(hcp:cp .none){P:Program}{w:World}{K:PySem.W.Frag}{mg:Str->Option Value}{base:Heap}{N:List Str}{qual:Str}{scope:Scope}{f:Addr}{cd:Value}{A:Around}{outer:List Env}{s:Shared}{H:Hp} :
 vq1 (wx0 (CXc P w cp) P w K mg base N qual scope f cd A outer s H E) C E:=λA3 σ H1 s1 x od I hx nx fx hE=>wf2 I rfl rfl rfl hx hcp (.inl rfl) nx fx (λT z=>nomatch z) hE
def xu8{e1 e2:Expr}{f:FnA S}{np cp pos:Pos}(B:vh7 X.K X.mg C)(hr:wv8 k X.A)(h2:2<=k)(hex:X.ex=[])(hg:Gl X n)(hm:X.mg n=some (.ref C))(ha:DA X c [e1,e2] f)(md:vq1 X C E)(hE:∀x st H',c.Ex x st H'->exB C E x H')(hs:starEach [e1,e2] X.env=(false,eval e1 X.env)::starEach [e2] X.env:=by rfl)(hpl:(backTo cp (starEach [e2] X.env)).any (·.1)=false:=by rfl)(hd:(n == ("__debug__" : Str))=false:=by decide) :
 DS X c (.Raise (some (.Call (.Name n np) [e1,e2] [] cp)) none pos) (xa0 S n f):=
 (xp9 (k:=k-2) B (hr.mono (by omega)) hex hg hm ha md hs hpl hd).imp λD σ H hI47=>by
  obtain⟨ρ,st,R,ok,w⟩:=hI47;refine⟨ρ,st,R,ok,za8 (za4.mp w) (λl st1 q vs H1 e ok1 z=>?_) λx st1 q H1 e ok1=>q H1 (e.f0 R) ok1⟩;cases o:ym8 n l with
  | none=>rw[o] at q;exact q.elim
  | some x=>
    rw[o] at q;obtain⟨a,b,rfl,rfl,la,lb⟩:=xa8 o;exact⟨a,b,vw1 z,la,lb,hE _ _ _ (q H1 (e.f0 R) ok1) a b rfl⟩
end
def spB(K:PySem.W.Frag)(C:Addr)(F:List D->Res Unit D):Sp:=λvs H Q E=>∃l,IsL K (λ_=>True) H l vs/\wpR (F l) (λd _=>∀v H',wx4 H H'->Is K (λb=>H b=none) H' d v->Q v H') λx _=>∀H',wx4 H H'->exB C E x H'
section
variable{P:Program}{w:World}{K:PySem.W.Frag}{mg:Str->Option Value}{base:Heap}
def Fun.dB{cp:Value->Prop}{x qual:Str}{st:Stmt}{f C:Addr}{fd:FuncData}{N ps:List Str}{k:Nat}{B:FnS Unit}(F:Fun K x qual st f fd)(S:zc0 N ps (za2 st))(hb:∀(cdv:Value) (A:Around) (outer:List Env) (s:Shared) (H:Hp) (E:XK),wv8 k (A.deeper (envOfC qual (za2 st) s.heap.objs.size f cdv))->
  DSs (wx0 (CXc P w cp) P w K mg base N qual (za2 st) f cdv A outer s H E) (cxB K H C E) (zb9 st) B):wy0 P w K mg base (CXc P w cp) (k+1) f fd ps (spB K C (dfn N.length ps.length B)):=by
 obtain⟨oc,od,kV,doc,pm,an,cdv,ct,osl,rfl,lk,hcd⟩:=F.ex;refine vo9 lk hcd S (λvs H Q E h=>?_) λA outer s H vs Q E hr h=>?_
 ·obtain⟨l,i,w⟩:=h
  unfold dfn at w;by_cases hl:l.length=ps.length/\ps.length<=N.length
  ·rw[<-i.length];exact hl.1
  ·rw[if_neg hl] at w;exact w.elim
 ·obtain⟨l,i,w⟩:=h
  unfold dfn at w;by_cases hl:l.length=ps.length/\ps.length<=N.length
  ·rw[if_pos hl] at w
   have R:=yu3 (N:=N) (by omega) i;refine⟨_,hb cdv A outer s H E hr,rho0 N.length l,(),⟨R.len,R.frame,R.slot,R.avl,R.uniq⟩,trivial,?_⟩;have fin:∀d v H',F0 (cx0 K H) H'->Is K (λb=>¬W0.mv b/\H b=none) H' d v->(∀v H',wx4 H H'->Is K (λb=>H b=none) H' d v->Q v H')->Q v H':=λd v H' f0 z q=>
    q v H' (λb o e=>f0 b o e λm=>m) (z.mono ⟨λ_ _ z _=>z,λb o a z=>⟨a.2,z⟩⟩)
   cases q:B (rho0 N.length l) () with
   | bad=>rw[q] at w;exact w.elim
   | exc x u=>rw[q] at w;exact λH' f0 _=>w H' λb o e=>f0 b o e λm=>m
   | ok fl u=>
     rw[q] at w;cases fl with
     | rt d=>exact λv H' f0 _ z=>fin d v H' f0 z w
     | nx ρ=>exact λσ' H' fr _ R'=>fin .non .non H' (λb o e n=>R'.frame b o e n) (Is.non_iff.mpr rfl) w
     | bk ρ=>exact w.elim
     | ct ρ=>exact w.elim
  ·rw[if_neg hl] at w;exact w.elim
end
def spT(g:Addr)(K:PySem.W.Frag)(F:List D->Res Unit D):Sp:=λvs H Q E=>∃us,vs=us++[.ref g]/\sp0 K F us H Q E
section
variable{X:Cx}{S:Type}{W:Wd S}{c:Dx W}{g:Gr}{k:Nat}{x n:Str}{ps:List Str}{p pos:Pos}{e:Expr}{es:List Expr}{v:V}
end
abbrev vp6(x1 x2:Str)(j1 j2:Nat)(pB pA pc pe p1 p2 p3 p4 p5 p6 p7:Pos):Expr:=
 .Call (.Attribute (.Name "HallError" pB) "__init__" pA) [.Name "self" p1,.JoinedStr [.Constant (.str x1) j1 p2,.FormattedValue (.Name "push" p3) (-1) none p4,.Constant (.str x2) j2 p5,.FormattedValue (.Name "step" p6) (-1) none p7] pc] [] pe
def vs7{x1 x2:Str}{a b:Int}(h1:x1.length<=1000)(h2:x2.length<=1000)(ha:a.natAbs.log2<1920)(hb:b.natAbs.log2<1920)(Q:VK)(q:Q (.str (Str.empty++x1++(toString a:String)++x2++(toString b:String))) H):tJ [tC (.str x1),vn4 (vb2 1),tC (.str x2),vn4 (vb2 2)] Str.empty (wx1 ["self","push","step"] [.ref e,.int a,.int b]) H Q:=by
 have l1:=int_text_len_1921 ha;have l2:=int_text_len_1921 hb;have e0:Str.empty.length=0:=rfl;have big:∀{n:Nat},n<=6000->n<=sizeLine:=λh=>Av0 h (by decide)
 refine⟨x1,rfl,big (by omega),big ?_,.int a,rfl,a,rfl,ha,_,rfl,big ?_,big ?_,x2,rfl,big (by omega),big ?_,.int b,rfl,b,rfl,hb,_,rfl,big ?_,big ?_,big ?_,q⟩
 all_goals (try simp only[Str.length_append])<;>omega
section
variable{K:PySem.W.Frag}{mg:Str->Option Value}{C C0 f:Addr}{st:Stmt}{fd:FuncData}{nm q qual:Str}{M:Addr}{bs bm:List Value}{sn:List Str}{sub:List Value}{ab:Bool}{col:Option Bool}{dd:Option Addr}{k0 k1 k2 k3 k5:Option Value}
variable{x1 x2:Str}{j1 j2:Nat}{pB pA pc pe p1 p2 p3 p4 p5 p6 p7 p8 q1 q2 q3 q4 r1 r2 r3 r4:Pos}
def wb6(F:Fun K "__init__" qual st f fd)(hbody:zb9 st=[.Expr (vp6 x1 x2 j1 j2 pB pA pc pe p1 p2 p3 p4 p5 p6 p7) q1,.Assign [.Attribute (.Name "self" q2) "push" q3] (.Name "push" q4) r1,.Assign [.Attribute (.Name "self" r2) "step" r3] (.Name "step" r4) p8])(S:zc0 ["self","push","step"] ["self","push","step"] (za2 st))(h1:x1.length<=1000)(h2:x2.length<=1000)(lC:K.lookup C=some (excClassObj nm q C M bs bm true sn sub ab col dd k0 k1 k2 k3 k5 "ValueError.__new__"))(tl:PySem.W.tailIn K bmV bm=true)(L:va3 K C)(hsa:PySem.W.findIn K (.ref C) "__setattr__" = some (some (.builtin "object.__setattr__")))(n1:PySem.W.findIn K (.ref C) "push" = some none)(n2:PySem.W.findIn K (.ref C) "step" = some none)(hrf:∀e:Addr,refuseLoop (.ref e) "__setattr__" bm=pure ())(gB:(za2 st).names.lookup ("HallError" : Str)=some .globalImplicit)(mB:mg "HallError" = some (.ref C0))(hrd:PySem.W.readsIn K C0 (.type "type")=true)(hfc:PySem.W.findCls K (.ref C0) (.type "type") "__init__" = some (.val (.builtin "ValueError.__init__")))(hg:PySem.W.specialIn K (.ref C0) "__getattribute__" = some (some (.builtin "type.__getattribute__")))(l0:(za2 st).names.lookup ("self" : Str)=some .local)(l1:(za2 st).names.lookup ("push" : Str)=some .local)(l2:(za2 st).names.lookup ("step" : Str)=some .local)(ht:∀env:Env,∃pl:Sem Bool,eval (vp6 x1 x2 j1 j2 pB pA pc pe p1 p2 p3 p4 p5 p6 p7) env=(do
  let ov <-eval (.Name "HallError" pB) env
  standAt pA.atName
  let (g,first) <-holding [ov] (getMethod ov "__init__" pl)
  callWith pe g first (backTo pe (starEach [.Name "self" p1,.JoinedStr [.Constant (.str x1) j1 p2,.FormattedValue (.Name "push" p3) (-1) none p4,.Constant (.str x2) j2 p5,.FormattedValue (.Name "step" p6) (-1) none p7] pc] env)) (backToKw pe (keywordEach [] env)))) :
 vq2 K mg C f fd:=by
 obtain⟨oc,od,kV,doc,pm,an,cdv,ct,osl,rfl,lk,hcd⟩:=F.ex;rw[hbody] at lk ⊢;intro P w base k A outer s H args us R oe fs t0 e a b hr e0 bt r hx hc hd hdn hf hbe hfe he ha hb done;obtain⟨pl,ht⟩:=ht (envOfC qual (za2 st) s.heap.objs.size f cdv);exact vw4 (pl:=pl) lk hcd S hr e0 bt r hx hc hd hdn hf hbe hfe he ha hb (λQ z=>vs7 h1 h2 ha hb Q (z rfl)) lC tl L hsa n1 n2 (hrf e) gB mB hrd hfc hg l0 l1 l2 ht done
end
def xi1(S:Type)(F:List D->Res Unit D)(f:FnA S):Fn S:=λρ st=>(f ρ st).bind λl st1=>match F l with
 | .ok d _=>.ok d st1
 | .exc x _=>.exc x st1
 | .bad=>.bad
def yg8{S:Type}{F:List D->Res Unit D}{f:FnA S}{ρ:Rho}{st:S}{Q:D->S->Prop}{E:Exn->S->Prop}:wpR (xi1 S F f ρ st) Q E↔wpR (f ρ st) (λl st1=>wpR (F l) (λd _=>Q d st1) λx _=>E x st1) E:=by
 unfold xi1;rw[za4];constructor<;>intro h<;>refine za8 h (λl st1 q=>?_) λ_ _ q=>q<;>cases o:F l<;>rw[o] at q<;>exact q
structure ys5(P:Program)(w:World)(K:PySem.W.Frag)(mg:Str->Option Value)(base:Heap)(k:Nat)(C:Addr)(x:Str)(ps:List Str)(G:List D->Res Unit D):Prop where
 ex:∃f fd,mg x=some (.ref f)/\keepIn K (.ref f)=true/\wz7 K fd ps []/\wy0 P w K mg base (CX2 P w) k f fd ps (spB K C G)
section
variable{X:Cx}{S:Type}{W:Wd S}{c:Dx W}{g:Gr}{k:Nat}{x:Str}{ps:List Str}{p pos:Pos}{e:Expr}{es:List Expr}{E:XK}{C:Addr}{G:List D->Res Unit D}{f:FnA S}
theorem xy4(hE:∀x st H',c.Ex x st H'->exB C E x H')(h:tD c g (xi1 S G f) σ H Q):vd8 (spB c.K C G) [] E (tDA c f) σ H Q:=by
 obtain⟨ρ,st,R,ok,w⟩:=h;refine⟨ρ,st,R,ok,za8 (za4.mp w) (λl st1 q vs H1 e1 ok1 z=>?_) λx st1 q=>q⟩;show spB c.K C G (vs++[]) H1 Q E;rw[Az0];refine⟨l,IsL.mono (A:=λb=>¬W.mv b) ⟨λ_ _ z _=>z,λb o a z=>⟨trivial,z⟩⟩ z,?_⟩;have stays:∀{H'},wx4 H1 H'->W.ok st1 H':=λs=>W.stay st1 H1 _ ok1 λb o _ hb=>s b o hb
 cases q':G l with
 | bad=>rw[q'] at q;exact q.elim
 | ok d u=>
   rw[q'] at q;intro v H' s n;have n':New c H1 H' d v:=Is.mono (A:=λb=>H1 b=none) ⟨λ_ _ z _=>z,λb o a z=>⟨⟨zn7 ok1 a,a⟩,z⟩⟩ n;exact q v H' (e1.trans s.ext) (stays s) ((n'.val (R.ext ok e1) g).back e1 ok1)
 | exc y u=>
   rw[q'] at q;intro H' s;exact hE _ _ _ (q H' (e1.trans s.ext) (stays s))
def yr7(CC:ys5 X.prog X.w X.K X.mg X.base k C x ps G)(hK:X.K=c.K)(hr:wv8 k X.A)(hg:Gl X x)(ha:DA X c (e::es) f)(hx:yy8 (CX2 X.prog X.w) X E)(hE:∀x st H',c.Ex x st H'->exB C E x H')(hdb:(x == ("__debug__" : Str))=false:=by decide)(he:starEach (e::es) X.env=(false,eval e X.env)::starEach es X.env:=by rfl)(hpl:(backTo pos (starEach es X.env)).any (·.1)=false:=by rfl):DE X c g (.Call (.Name x p) (e::es) [] pos) (xi1 S G f):=by
 obtain⟨fa,fd,hm,hk,hb,F⟩:=CC.ex;exact(yb8 (E:=E) F hr hg hm hk hb .nil hx ha hdb he hpl).imp λσ H Q q=>by rw[hK];exact xy4 hE q
end
def noX(G:List D->Res Unit D)(l:List D):Res Unit D:=match G l with
 | .ok d st=>.ok d st
 | _=>.bad
def wd1(h:wpR (G l) Q λ_ _=>False):wpR (noX G l) Q E:=by
 unfold noX;cases q:G l<;>rw[q] at h<;>first | exact h | exact h.elim
def wy0.weak3{P:Program}{w:World}{K:PySem.W.Frag}{mg:Str->Option Value}{base:Heap}{k:Nat}{f:Addr}{fd:FuncData}{ps:List Str}{sp:Sp}{cp cq:Value->Prop}(h:∀c,cp c->cq c)(F:wy0 P w K mg base (CXc P w cp) k f fd ps sp):wy0 P w K mg base (CXc P w cq) k f fd ps sp:=
 ⟨F.len,λA outer s H args us vs Q E hr e0 bt r q=>codeAny_mono (F.run A outer s H args us vs Q E hr e0 bt r q) λr2 s2 z=>by
  cases r2 with
  | ok fl=>cases fl<;>exact z
  | error e=>exact CXc.weak h z⟩
theorem wy0.noX{P:Program}{w:World}{K:PySem.W.Frag}{mg:Str->Option Value}{base:Heap}{k:Nat}{f C:Addr}{fd:FuncData}{ps:List Str}{G:List D->Res Unit D}(F:wy0 P w K mg base (CX2 P w) k f fd ps (spB K C G)):wy0 P w K mg base CX0 k f fd ps (sp0 K (noX G)):=by
 have low:∀vs H Q,(∃E,sp0 K (L2.noX G) vs H Q E)->spB K C G vs H Q (λ_ _ _=>False):=λvs H Q hI48=>by
  obtain⟨E,l,i,w⟩:=hI48;refine⟨l,i,?_⟩;unfold L2.noX at w;cases q:G l with
  | bad=>rw[q] at w;exact w.elim
  | ok d st=>rw[q] at w;exact w
  | exc x st=>rw[q] at w;exact w.elim
 refine⟨λvs H Q E h=>F.len vs H Q _ (low vs H Q ⟨E,h⟩),λA outer s H args us vs Q E hr e0 bt r h=>codeAny_mono (F.run A outer s H args us vs Q _ hr e0 bt r (low vs H Q ⟨E,h⟩)) λr2 s2 z=>?_⟩;cases r2 with
 | ok fl=>cases fl<;>exact z
 | error e=>
   obtain⟨_,_,_,_,_,_,_,_,_,_,_,_,_,_,_,_,_,z⟩:=z;exact z.elim
def yr4:entryFor table "proto.unchain" = some Builtin.«proto.unchain»:=entryFor_of_tree (by kernel_rfl)
def zw6(h:Addr)(vs:Array Value):Array Value:=((vs.setIfInBounds 3 .none).setIfInBounds 4 (.bool true)).setIfInBounds 2 (.ref h)
section
variable{prog:Program}{w:World}{A:Around}{E:Value->Shared->Prop}{s:Shared}
def xk3(hh:s.heap.get? h=some oh)(hd:oh.data=.fields hs)(h2:hs[2]?=some .none)(q:Q .none s) :
 wpAny (model prog w) A (runValue (.builtin "proto.unchain" ⟨[.ref e,.ref h,.ref h,.bool false],[]⟩)) Q E s:=by
 refine wpAny_runValue (codeAny_builtin yr4 ?_);unfold Builtin.«proto.unchain»;refine Aa1 (Ac1 hh hd h2 ?_);rw[if_pos (by decide)]
 wp_walk
 exact q
def xa2{α:Type}{e h:Addr}{oe oh:Obj}{vs hs:Array Value}{Q:α->Shared->Prop}(hh:A.handled=some (.ref h))(ne:h≠e)(hho:s.heap.get? h=some oh)(hhd:oh.data=.fields hs)(hh2:hs[2]?=some .none)(he:s.heap.get? e=some oe)(hd:oe.data=.fields vs)(sz:2<vs.size)(fin:E (.ref e) { s with heap:=s.heap.update e (Obj.mapFields (·.setIfInBounds 2 (Value.ref h))) }):wpAny (model prog w) A (raiseNew (.ref e):Sem α) Q E s:=by
 unfold raiseNew;refine Aa1 (wpAny_handled ?_);rw[hh];have c:(Value.ref h != Value.ref e)=true:=by simpa using ne
 simp only[c,if_true];refine Aa1 (wpAny_holding (xk3 hho hhd hh2 (Aa1 ?_)));have step:=wpAny_setField (M:=model prog w) (A:=A) (E:=E) (i:=2) (x:=.ref h) (Q:=λ_ s'=>wpAny (model prog w) A (throw (Value.ref e):Sem α) Q E s') he hd sz (wpAny_throw fin);exact step
def vw0(he:hp.get? e=some oe)(hd:oe.data=.fields vs)(nf:e∉fr) :
 ∃hp',(((hp.update e (Obj.mapFields (·.setIfInBounds 3 Value.none))).update e (Obj.mapFields (·.setIfInBounds 4 (Value.bool true)))).update e (Obj.mapFields (·.setIfInBounds 2 (Value.ref h))))=hp'/\Kp fr (λb=>b=e) hp hp'/\hp'.get? e=some { oe with data:=.fields (zw6 h vs) }:=by
 obtain⟨a1,a2,a3⟩:=ya8 (fr:=fr) 3 Value.none he hd nf;obtain⟨b1,b2,b3⟩:=ya8 (fr:=fr) 4 (Value.bool true) a2 rfl nf;obtain⟨c1,c2,c3⟩:=ya8 (fr:=fr) 2 (Value.ref h) b2 rfl nf;exact⟨_,rfl,((a1.then b1).then c1).sub λb u _ z=>by rcases z with (z | z) | z<;>exact z,c2⟩
variable{nm q:Str}{C N:Addr}{bs bm:List Value}{hd:Bool}{sn:List Str}{sub:List Value}{ab:Bool}{col:Option Bool}{dd:Option Addr}{k0 k1 k2 k3 k5:Option Value}{newId:String}
set_option maxHeartbeats 1000000 in
def yl4{env:Env}{x c:Sem Value}{h:Addr}{Q:Flow->Shared->Prop}(hb:bm.contains (.type "BaseException")=true)(hh:A.handled=some (.ref h))(hx:wpAny (model prog w) A x (λv s₁=>∃(e:Addr) (oe:Obj) (vs:Array Value),v=.ref e/\wpAny (model prog w) A c (λcv s₂=>cv=.none/\s₂.heap.get? C=some (excClassObj nm q C N bs bm hd sn sub ab col dd k0 k1 k2 k3 k5 newId)/\s₂.heap.get? e=some oe/\oe.cls=.ref C/\
  oe.data=.fields vs/\vs[1]?=some .none/\4<vs.size/\h≠e/\C≠e/\(∃oh hs,s₂.heap.get? h=some oh/\oh.data=.fields hs/\hs[2]?=some .none)/\
  E (.ref e) { s₂ with heap:=((s₂.heap.update e (Obj.mapFields (·.setIfInBounds 3 Value.none))).update e (Obj.mapFields (·.setIfInBounds 4 (Value.bool true)))).update e (Obj.mapFields (·.setIfInBounds 2 (Value.ref h))) }) E s₁) E s) :
 wpAny (model prog w) A (raiseStmt env (some x) (some c)) Q E s:=by
 have hc:(Value.ref C::bm).contains (.type "BaseException")=true:=by rw[List.contains_cons,hb,Bool.or_true]
 unfold raiseStmt;refine Aa1 (Ae1 hx (λv s₁ z=>?_) λ_ _ y=>y);obtain⟨e,oe,vs,rfl,z⟩:=z;refine Aa1 (wpAny_holding (Ae1 z (λcv s₂ z=>?_) λ_ _ y=>y));obtain⟨rfl,hC,he,hcls,hdat,h1,sz,ne,neC,⟨oh,hs,hho,hhd,hh2⟩,fin⟩:=z;obtain⟨hp,gg,dr,tk,osx⟩:=s₂;obtain⟨a1,a2,a3⟩:=ya8 (fr:=[]) 3 Value.none he hdat (by simp);obtain⟨b1,b2,b3⟩:=ya8 (fr:=[]) 4 (Value.bool true) a2 rfl (by simp);have hC2:=((b3 C neC).trans (a3 C neC)).trans hC;have hho2:=((b3 h ne).trans (a3 h ne)).trans hho;repeat (first
  | (with_reducible refine wpAny_loadPart_at he ?_;rw[hcls])
  | with_reducible refine wpAny_loadPart_at he ?_
  | with_reducible refine wpAny_loadPart_at hC ?_
  | (with_reducible refine wpAny_isSubtype_exc hC ?_;rw[hc])
  | wp_step)
 rw[hdat];show wpAny _ _ (if 3<vs.size then _ else _) _ _ _;rw[if_pos (by omega)];refine wpAny_update' he ?_;have s4:4<(vs.setIfInBounds 3 Value.none).size:=by rw[Bp0];exact sz
 refine Aa1 (wpAny_setField a2 rfl s4 ?_);have f1:((vs.setIfInBounds 3 Value.none).setIfInBounds 4 (Value.bool true))[1]?=some .none:=by
  rw[Bs0 (by decide),Bs0 (by decide)];exact h1
 repeat (first
  | (with_reducible refine wpAny_loadPart_at b2 ?_;rw[hcls])
  | with_reducible refine wpAny_loadPart_at b2 ?_
  | with_reducible refine wpAny_loadPart_at hC2 ?_
  | wp_step)
 rw[f1];refine Ab1 ?_;rw[if_neg (by simp)];refine Ab1 ?_;have s2:2<((vs.setIfInBounds 3 Value.none).setIfInBounds 4 (Value.bool true)).size:=by rw[Bp0,Bp0];omega
 exact xa2 hh ne hho2 hhd hh2 b2 rfl s2 fin
end
section
variable{M:Model}{A:Around}{E:Value->Shared->Prop}{s:Shared}{x T L:Addr}{C v c fl:Value}{od:Option Addr}{env:Env}{Q:Unit->Shared->Prop}
def yo1(hx:XAt s.heap x C od (.ref T) c)(hT:vb0 s.heap T fl)(ne:T≠x)(k:∀h',(∀b,b≠T->h'.get? b=s.heap.get? b)->XAt h' x C od (.ref T) c->vb0 h' T (rawInt L)->Q () { s with heap:=h' }):wpAny M A (setFlight (.ref x) (some L)) Q E s:=by
 obtain⟨o,vs,h1,h2,h3,h4,h5,h6⟩:=hx;obtain⟨oT,ts,g1,g2,g3⟩:=hT;have sz:=(Bw0.mp g3).1;unfold setFlight;refine Aa1 (Ac1 h1 h4 h5 ?_);rw[if_pos (by simp)];refine wpAny_setField g1 g2 sz ?_;obtain⟨p1,p2,p3⟩:=ya8 (fr:=[]) 3 ((some L:Option Addr).elim Value.none λf=>rawInt f) g1 g2 (by simp);exact k _ p3 ⟨o,vs,(p3 x (Ne.symm ne)).trans h1,h2,h3,h4,h5,h6⟩ ⟨_,_,p2,rfl,by simp[sz]⟩
def yn0(hf:env.frame=some L)(hx:XAt s.heap x C od (.ref T) c)(hT:vb0 s.heap T (rawInt L))(q:Q () s):wpAny M A (noteFrame (.ref x) env) Q E s:=by
 obtain⟨o,vs,h1,h2,h3,h4,h5,h6⟩:=hx;obtain⟨oT,ts,g1,g2,g3⟩:=hT;unfold noteFrame;simp only[hf];refine Aa1 (Ac1 h1 h4 h5 ?_);rw[if_pos (by simp)];refine Aa1 (Ac1 g1 g2 g3 ?_);rw[if_pos (by simp)];exact Ab1 q
def wj0{what:String}(hf:env.frame=some L)(hx:XAt s.heap x C od (.ref T) c)(hT:vb0 s.heap T fl)(ne:T≠x)(k:∀h',(∀b,b≠T->h'.get? b=s.heap.get? b)->XAt h' x C od (.ref T) c->vb0 h' T (rawInt L)->R (.ref x) { s with heap:=h' }) :
 wpAny M A (PySem.passOn what (.ref x) env:Sem Flow) (λ_ _=>False) (notedBy M A env R) s:=by
 obtain⟨o,vs,h1,h2,h3,h4,h5,h6⟩:=id hx;unfold PySem.passOn;refine Aa1 (Ac1 h1 h4 h5 ?_);rw[if_neg (by simp)];rw[hf];refine Aa1 (yo1 (L:=L) hx hT ne λh' a b d=>wpAny_throw ?_);unfold notedBy;exact yn0 hf b d (k h' a b d)
def wl9(hf:env.frame=some L)(hx:XAt s.heap x C od (.ref T) c)(hT:vb0 s.heap T fl)(ne:T≠x)(k:∀h',(∀b,b≠T->h'.get? b=s.heap.get? b)->XAt h' x C od (.ref T) c->vb0 h' T (rawInt L)->R (.ref x) { s with heap:=h' }):cameBackBy M A env R (.ref x) s:=by
 obtain⟨o,vs,h1,h2,h3,h4,h5,h6⟩:=id hx;unfold cameBackBy;refine Aa1 (Ac1 h1 h4 h5 ?_);rw[if_neg (by simp)];rw[hf];exact yo1 (L:=L) hx hT ne k
end
section
variable{X:Cx}{A3:List (Addr×Obj)}{σ:St}{H:Hp}{s:Shared}{k:Nat}
def wr3(I:Inv X A3 σ H s)(hst:X.stack=X.env::X.outer)(hfr:X.env.frame=some X.env.locals)(hex:X.ex=[])(hx:XAt s.heap x C od (.ref T) c)(hcp:cp c)(hT:vb0 s.heap T (rawInt X.env.locals))(ne:T≠x)(nx:X.s₀.heap.get? x=none)(fx:H x=none)(nT:X.s₀.heap.get? T=none)(fT:H T=none)(hE:E C od H) :
 wpAny M X.A (leaving X.env (.ref x)) (λ_ s'=>CXc X.prog X.w cp X.outer X.H₀ X.s₀ E (.ref x) s') E' s:=by
 have fs:∀b,b∈frs X.stack↔b=X.env.locals\/b∈X.fs:=λb=>by
  rw[hst];unfold Cx.fs frs;rw[Bv0,hfr];exact Aj0
 have tf:T∉frs X.stack:=λm=>by
  obtain⟨oT,ts,g1,g2,_⟩:=hT;obtain⟨_,u,hu,hn⟩:=I.stack.mem m;rw[g1] at hu;cases hu;exact hn ts g2
 unfold leaving;refine Aa1 (yn0 hfr hx hT (yb0 (fr:=frs X.stack) hx hT ne tf λh' kp hx' hT'=>?_));have neL:∀b o,X.s₀.heap.get? b=some o->b≠X.env.locals:=λb o e=>Ar0 (Ap0 (Heap.lt_size e) I.ok.above)
 have kp2:Kp X.fs (λb=>b=T\/b=X.env.locals) s.heap h':=⟨λb o e hb hn=>kp.keep b o e (λm=>((fs b).mp m).elim (λz=>hn (.inr z)) hb) λz=>hn (.inl z),λb o e hb=>kp.slot b o e ((fs b).mpr (.inr hb))⟩;have un:Un X.fs [] X.H₀ H X.s₀.heap h':=by
  have b:=I.base;rw[hex] at b;exact b.kp kp2 λb o e z=>z.elim (λz=>by subst z;rw[nT] at e;cases e) (neL b o e)
 exact⟨x,T,C,c,od,H,rfl,I.os,I.bare,un,I.hok.kp kp (λb z=>by subst z;exact fT) I.stkFree,hx',hcp,hT',ne,⟨nx,nT⟩,⟨fx,fT⟩,hE⟩
def Inv.recd(I:Inv X A3 σ H s)(hst:X.stack=X.env::X.outer)(hfr:X.env.frame=some X.env.locals)(new:X.s₀.heap.objs.size<=T)(hT:∃o vs,s.heap.get? T=some o/\o.data=.fields vs)(fT:H T=none)(np:∀p∈X.pn++A3,p.1≠T)(kp:∀b,b≠T->h'.get? b=s.heap.get? b)(th:∃u,h'.get? T=some u):Inv X A3 σ H { s with heap:=h' }:=by
 obtain⟨oT,ts,g1,g2⟩:=hT;have tf:T∉frs X.stack:=λm=>by
  obtain⟨_,u,hu,hn⟩:=I.stack.mem m;rw[g1] at hu;cases hu;exact hn ts g2
 have nl:T≠X.env.locals:=λz=>tf (by
  rw[z,hst];unfold frs;rw[Bv0,hfr];exact Br0)
 have kk:∀b o,b∉[T]->s.heap.get? b=some o->h'.get? b=some o:=λb o hb q=>(kp b λz=>hb (Ae0.mpr z)).trans q
 refine I.step (g':=s.gens) (d':=s.drawn) (t':=s.toks) (ch:=[T]) (λb hb=>?_) (λb o _ _ hc q _=>kk b o hc q) (λb o _ _ hc q _=>⟨o.slots,kk b o hc q⟩) (λb o _ _ n=>n)
  (λb o hc q=>⟨o,kk b o hc q⟩) (λ_ _ q=>q) (λ_ _ _ q=>q) (λ_ ps q=>⟨#[],by rw[Array.append_empty];exact q⟩) (λm hm=>?_) (λb ob q=>?_) I.bare
 ·rw[Ae0.mp hb]
  refine⟨.inr new,nl,λx c hc z=>?_,np⟩;subst z;obtain⟨w',ow,how,hcell⟩:=I.cell x c hc;rw[g1] at how;cases how;rw[g2] at hcell;cases hcell
 ·obtain⟨o,es,ep,ho,r⟩:=hm
  exact⟨o,es,ep,(kp _ (Ne.symm nl)).trans ho,r⟩
 ·refine(I.hok b ob q).stay (λc u hc z=>(kp c ?_).trans z) (λ_ q=>q) λ_ _ q=>q
  rintro rfl;rcases hc with rfl | hc
  ·rw[fT] at q;cases q
  ·rw[fT] at hc;cases hc
open H in
def xo4{Q:VK}{R:Flow->Shared->Prop}{E1 E:XK}{ia inn im:Nat}{a n b m:Str}{C1:Addr}{call:Expr}{pa pn pb pb2 pm pat cp p1 p2 p3 p4 pz:Pos}{jz:Nat}(I:Inv X A3 σ H s)(hcall:wpAny (model X.prog X.w) X.A (eval call X.env) (EP X A3 σ Q) (λe s'=>∃H1 s1,Inv X A3 σ H1 s1/\CX3 X.prog X.w X.stack H1 s1 E1 e s') s)(hst:X.stack=X.env::X.outer)(hfr:X.env.frame=some X.env.locals)(hex:X.ex=[])(hr:wv8 (k+2) X.A)(hN:X.N.Nodup)(ja:X.N[ia]?=some a)(jn:X.N[inn]?=some n)(jm:X.N[im]?=some m)(la:X.env.kindOf a=some .local)(ln:X.env.kindOf n=some .local)(lm:X.env.kindOf m=some .local)(hmn:im≠inn)(gb:Gl X b)(mb:X.mg b=some (.ref C1))(B:vh7 X.K X.mg C1)(L:va3 X.K C1)(a2:PySem.W.findIn X.K (.ref C1) "step" = some none)(hE1:∀C od H',E1 C od H'->C=.ref C1/\∃(dx:Addr) (i j z:Int),od=some dx/\H' dx=some (xdB i j)/\j.natAbs.log2<1920/\σ[im]?=some (some (.int z))/\z.natAbs.log2<1920/\∀dx',H' dx'=none->E (.ref C1) (some dx') (upd H' dx' (xdB z j)))(ok:∀v H' s',Inv X A3 (σ.set ia (some v)) H' s'->Q v H'->R .next s')(md:∀(A3:List (Addr×Obj)) (σ:St) (H:Hp) (s:Shared) (x T:Addr) (od:Option Addr) (c:Value),Inv X A3 σ H s->XAt s.heap x (.ref C1) od (.ref T) c->vb0 s.heap T (rawInt X.env.locals)->T≠x->X.s₀.heap.get? x=none->X.s₀.heap.get? T=none->H x=none->H T=none->E (.ref C1) od H->X.xe (.ref x) s)(hdn:(b == ("__debug__" : Str))=false:=by decide)(hdv:(n == ("__debug__" : Str))=false:=by decide)(hcv:(n == ("__classdict__" : Str))=false:=by decide)(hdm:(m == ("__debug__" : Str))=false:=by decide)(hcm:(m == ("__classdict__" : Str))=false:=by decide)(hs:swapsWith call (some (.Name a pa)) p1.line X.env=pure false:=by rfl)(hab:attributeBase (.Name n pn) "step" X.env (eval (.Name n pn) X.env)=eval (.Name n pn) X.env:=by rfl)(hst1:starEach [.Name m pm,.Attribute (.Name n pn) "step" pat] X.env=(false,eval (.Name m pm) X.env)::starEach [.Attribute (.Name n pn) "step" pat] X.env:=by rfl)(hst2:starEach [.Attribute (.Name n pn) "step" pat] X.env=(false,eval (.Attribute (.Name n pn) "step" pat) X.env)::starEach [] X.env:=by rfl)(hpl:(backTo cp (starEach [.Attribute (.Name n pn) "step" pat] X.env)).any (·.1)=false:=by rfl) :
 wpAny (model X.prog X.w) X.A (exec (.Try [.Assign [.Name a pa] call p1] [.ExceptHandler (some (.Name b pb)) (some n) [.Raise (some (.Call (.Name b pb2) [.Name m pm,.Attribute (.Name n pn) "step" pat] [] cp)) (some (.Constant .none jz pz)) p2] p3] [] [] p4) X.env) R X.xe s:=by
 obtain⟨nm,qn,N,bs,bm,sn,sub,ab,col,dd,k0,k1,k2,k3,k5,f,fd,of,lk,okN,ni,tl,hbe,bi,lf,hfc,ib⟩:=id B.ex;refine wpAny_Try_except (wpAny_execs_cons (wpAny_Assign_Name (Ae1 hcall (λv s1 hI136=>?_) λe s1 hI135=>?_) hs))
 ·obtain⟨y,H1,I1,r1,q1⟩:=hI136
  refine zh1 I1 hN ja (.inl la) r1 (λs2 I2=>?_) (.inr la);exact wpAny_execs_nil (wpAny_execs_nil (ok y H1 s2 I2 q1))
 ·obtain⟨H1,s0,I1,c1⟩:=hI135
  refine xw1 I1 hst hfr c1 λy T C cv od H' h3 hy hEC hx hcp hT ne tf fy I3 back=>?_
  obtain⟨rfl,dx,i,j,z,hod,hdx,hj,hz,hzs,hq⟩:=hE1 _ _ _ hEC;obtain⟨oe,vs,hoe,hoc,hodd,hdat,hv1,hv2⟩:=id hx;have cbe:(Value.ref C1::bm).contains (.type "BaseException")=true:=by rw[List.contains_cons,hbe,Bool.or_true]
  refine wpAny_handleBy_cons (codeAny_handlers_test (zu9 (X:=X.mark (.ref y)) (I3.mark _) gb mb ?_ hdn)) (by intro q;cases q);refine yn5 (I3.kIn _ _ lk) (I3.kIn _ _ lk) hoe hoc cbe (by simp) (codeAny_handlers_suite_as ?_);refine yb0 (fr:=frs X.stack) hx hT ne tf λh4 k4 hx4 hT4=>?_
  have I4:Inv X A3 σ H' { s1 with heap:=h4 }:=back h4 k4;obtain⟨oe4,vs4,hoe4,hoc4,hod4,hdat4,hv14,hv24⟩:=hx4;have I5:Inv X ((y,oe4)::A3) σ H' { s1 with heap:=h4 }:=I4.pinE (p:=(y,oe4)) hoe4 fy ⟨vs4,hdat4⟩ hst hfr;refine zh1 I5 hN jn (.inl ln) (v:=.ref y) rfl (λs5 I6=>?_) (.inr ln);have hin':inn<σ.length:=by rw[I.len];exact(Ac0.mp jn).1
  have I7:Inv ((X.mark (.ref y)).pinned (y,oe4)) A3 (σ.set inn (some (.ref y))) H' s5:=(I6.mark _).toP;refine wpAny_execs_cons ?_;rw[arm_exec_Raise];refine Aa1 (wpAny_standAt (yl4 (C:=C1) (nm:=nm) (q:=qn) (N:=N) (bs:=bs) (bm:=bm) (hd:=true) (sn:=sn) (sub:=sub) (ab:=ab) (col:=col) (dd:=dd) (k0:=k0) (k1:=k1) (k2:=k2) (k3:=k3) (k5:=k5) (newId:="ValueError.__new__") (h:=y) hbe rfl ?_));have set2:(σ.set inn (some (V.ref y)))[im]?=some (some (.int z)):=by rw[At0 (Ne.symm hmn)];exact hz
  have setn:(σ.set inn (some (V.ref y)))[inn]?=some (some (.ref y)):=Bk0 hin';have dxe:oe4.dict=some dx:=hod4.trans hod;have ha:PA ((X.mark (.ref y)).pinned (y,oe4)) [.Name m pm,.Attribute (.Name n pn) "step" pat] _:=zb8 (zu1 (i:=im) jm (.inl lm) hdm hcm) (zb8 (yq2 (.head _) hoc4 dxe hdat4 lk L a2 (zu1 (i:=inn) jn (.inl ln) hdv hcv) hab) zf4 hst2) hst1;refine Aa1 (Ae1 (Q:=λv sA=>∃(x dx':Addr) (oe':Obj) (vs':Array Value),v=.ref x/\Inv ((X.mark (.ref y)).pinned (y,oe4)) A3 (σ.set inn (some (.ref y))) (upd H' dx' (xdB z j)) sA/\sA.heap.get? x=some oe'/\oe'.cls=.ref C1/\oe'.dict=some dx'/\oe'.data=.fields vs'/\vs'[1]?=some .none/\vs'[2]?=some .none/\4<vs'.size/\upd H' dx' (xdB z j) x=none/\H' dx'=none/\∃sB:Shared,Inv ((X.mark (.ref y)).pinned (y,oe4)) A3 (σ.set inn (some (.ref y))) H' sB/\sB.heap.get? x=none/\sA.os=sB.os/\AllBare sA.gens/\Un (frs X.stack) [] H' (upd H' dx' (xdB z j)) sB.heap sA.heap/\HOk X.prog X.w (upd H' dx' (xdB z j)) sA.heap) (E:=λ_ _=>False) ?mk (λv sA hA=>?go) λ_ _ z=>z.elim);case mk=>
   refine wpAny_Call_Name_kw (zu9 (X:=(X.mark (.ref y)).pinned (y,oe4)) I7 gb mb ?_ hdn);refine PySem.W.callWith_K (h₀:=X.base) I.ok.mod.kin B.keep (thn (ha cp A3 s5 (σ.set inn (some (.ref y))) H' (λvs H1=>vs=[.int z,.int j]/\H1=H') I7 ?_) λus sB ⟨vsB,HB,IB,rB,ev,eH⟩=>⟨IB.kIn,?_⟩) hst1 hpl
   ·exact⟨.int z,set2,.ref y,setn,_,j,rfl,hdx,rfl,rfl,rfl⟩
   ·subst ev eH
    exact xg5 (X:=(X.mark (.ref y)).pinned (y,oe4)) (a:=z) (b:=j) B ⟨rfl,hr.dp,hr.un,hr.gd⟩ IB rB hzs hj λs' x dx' oe' vs' I2 hx' hc' hdd' hdat' hv' hv2' sz' nx' fx' fdx' hos' bare' un' hok'=>⟨x,dx',oe',vs',rfl,I2,hx',hc',hdd',hdat',hv',hv2',sz',fx',fdx',sB,IB,nx',hos',bare',un',hok'⟩
  case go=>
   obtain⟨x,dx',oe',vs',rfl,IA,hx',hc',hdd',hdat',hv',hv2',sz',fx',fdx',sB,IB,nx',hos',bare',un',hok'⟩:=hA;refine Aa1 (wpAny_standAt (Ab1 ⟨x,oe',vs',rfl,?_⟩));refine Aa1 (Constant_none (Aa1 (wpAny_standAt (Ab1 ?_))));have hpin:=IA.pin (y,oe4) (Bd0 _ (.head _));have hpinB:=IB.pin (y,oe4) (Bd0 _ (.head _));have nyx:y≠x:=λq=>by
    have:=hpinB.1;rw[q,nx'] at this;cases this
   have nCx:C1≠x:=λq=>by
    have:=IB.kIn _ _ lk;rw[q,nx'] at this;cases this
   refine⟨rfl,IA.kIn _ _ lk,hx',hc',hdat',hv',sz',nyx,nCx,⟨oe4,vs4,hpin.1,hdat4,hv24.trans (by rw[hcp])⟩,?_⟩;have xf:x∉frs X.stack:=λq=>by
    obtain⟨_,u,hu,_⟩:=IB.stack.mem q;rw[nx'] at hu;cases hu
   obtain⟨h5,e5,kp5,hx5⟩:=vw0 (fr:=frs X.stack) (h:=y) hx' hdat' xf;rw[e5];have IBx:Inv X A3 (σ.set inn (some (.ref y))) H' sB:=Inv.unmark I.ok IB.ofP;have fr2:∀b∈frs X.stack,upd H' dx' (xdB z j) b=none:=(Inv.unmark I.ok IA.ofP:Inv X A3 _ _ _).stkFree;have oldx:∀b o,sB.heap.get? b=some o->b≠x:=λb o q w=>by subst w;rw[nx'] at q;cases q
   have un5:=un'.kp kp5 λb o q w=>oldx b o q w
   have hok5:=hok'.kp kp5 (λb w=>by subst w;exact fx') fr2;have IX5:Inv X A3 (σ.set inn (some (.ref y))) (upd H' dx' (xdB z j)) { sA with heap:=h5 }:=IBx.call' (s':={ sA with heap:=h5 }) hos' un5 hok5 bare' (ch:=[]) λb w=>absurd w (by simp)
   have szr:(zw6 y vs').size=vs'.size:=by unfold zw6;rw[Bp0,Bp0,Bp0]
   have hx5':XAt h5 x (.ref C1) (some dx') .none (.ref y):=by
    refine⟨_,zw6 y vs',hx5,hc',hdd',rfl,?_,?_⟩
    ·unfold zw6
     rw[Bs0 (by decide),Bs0 (by decide),Bs0 (by decide)];exact hv'
    ·unfold zw6
     rw[Array.getElem?_setIfInBounds_self,if_pos (by rw[Bp0,Bp0];omega)]
   refine xs5 (base:=X.base) (outer:=X.outer) (show X.A.frames=some (X.env::X.outer) by rw[I.ok.frames,hst]) (show h5.FunFrames X.base (X.env::X.outer) by rw[<-hst];exact IX5.stack) hfr hx5' (.inl rfl) λh6 T' kp6 n6 sz6 ne6 hx6 hT6=>?_
   rw[<-hst] at kp6;have un6:=un5.kp kp6 λb o q w=>by
    rcases w with w | w
    ·exact oldx b o q w
    ·cases w
   have hok6:=hok5.kp kp6 (λb w=>by
    rcases w with w | w
    ·subst w;exact fx'
    ·cases w) fr2
   have IX6:Inv X A3 (σ.set inn (some (.ref y))) (upd H' dx' (xdB z j)) { sA with heap:=h6 }:=IBx.call' (s':={ sA with heap:=h6 }) hos' un6 hok6 bare' (ch:=[]) λb w=>absurd w (by simp)
   have fT':upd H' dx' (xdB z j) T'=none:=hok5.untracked n6;obtain⟨ox,vx,ex1,ex2,ex3,ex4,ex5,ex6⟩:=hx6;obtain⟨oT,vT,eT1,eT2,eT3⟩:=hT6;have IP:=(IX6.pinE (p:=(T',oT)) eT1 fT' ⟨vT,eT2⟩ hst hfr).pinE (p:=(x,ox)) ex1 fx' ⟨vx,ex4⟩ hst hfr;refine yt3 IP hN jn ln λs7 I10=>?_
   have gx:=(I10.pin (x,ox) (Am0 _ (.head _))).1;have gT:=(I10.pin (T',oT) (Am0 _ (.tail _ (.head _)))).1;have I10':Inv X A3 ((σ.set inn (some (.ref y))).set inn none) (upd H' dx' (xdB z j)) s7:=I10.unpin.unpin;refine wj0 hfr ⟨ox,vx,gx,ex2,ex3,ex4,ex5,ex6⟩ ⟨oT,vT,gT,eT2,eT3⟩ ne6 λh8 kp8 hx8 hT8=>?_
   refine wl9 hfr hx8 hT8 ne6 λh9 kp9 hx9 hT9=>?_
   have np:∀p∈X.pn++A3,p.1≠T':=λp hp w=>by
    have:=(IX5.pin p hp).1;rw[w] at this;exact absurd (n6.symm.trans this) (by simp)
   obtain⟨oT9,vT9,gT9,_⟩:=id hT9;have I11:Inv X A3 ((σ.set inn (some (.ref y))).set inn none) (upd H' dx' (xdB z j)) { s7 with heap:=h9 }:=I10'.recd hst hfr (Av0 IX5.sz sz6) ⟨oT,vT,gT,eT2⟩ fT' np (λb hb=>(kp9 b hb).trans (kp8 b hb)) ⟨_,gT9⟩;exact md A3 _ _ _ x T' (some dx') (.ref y) I11 hx9 hT9 ne6 (IBx.new0 hex nx') (IX5.new0 hex n6) fx' fT' (hq dx' fdx')
end
def ym9(x:Exn)(m:Option Sl):Option Exn:=match x.args,m with
 | [.int _,.int j],some (.bor (.int z))=>if z.natAbs.log2<1920/\j.natAbs.log2<1920 then some ⟨"Barred",[.int z,.int j]⟩ else none
 | _,_=>none
def vj3(S:Type)(im:Nat)(G:List D->Res Unit D)(f:FnA S):Fn S:=λρ st=>(f ρ st).bind λl st1=>match G l with
 | .ok d _=>.ok d st1
 | .exc x _=>(match ym9 x (ρ[im]?:Option Sl) with
   | some y=>.exc y st1
   | none=>.bad)
 | .bad=>.bad
open H in
def xb0(h:ym9 x m=some y):∃a j z:Int,x.args=[.int a,.int j]/\m=some (.bor (.int z))/\y=⟨"Barred",[.int z,.int j]⟩/\z.natAbs.log2<1920/\j.natAbs.log2<1920:=by
 unfold ym9 at h;split at h
 ·rename_i a j z e
  split at h
  ·rename_i q
   cases h;exact⟨a,j,z,e,rfl,rfl,q.1,q.2⟩
  ·cases h
 ·cases h
def xx8{S:Type}{im:Nat}{G:List D->Res Unit D}{f:FnA S}{ρ:Rho}{st:S}{Q:D->S->Prop}{E:Exn->S->Prop}:wpR (vj3 S im G f ρ st) Q E↔wpR (f ρ st) (λl st1=>wpR (G l) (λd _=>Q d st1) λx _=>∃y,ym9 x (ρ[im]?:Option Sl)=some y/\E y st1) E:=by
 unfold vj3;rw[za4];constructor<;>intro h<;>refine za8 h (λl st1 q=>?_) λ_ _ q=>q
 ·cases o:G l with
  | ok d u=>rw[o] at q;exact q
  | bad=>rw[o] at q;exact q
  | exc x u=>
    rw[o] at q;cases w:ym9 x (ρ[im]?:Option Sl) with
    | none=>simp only[w] at q;exact q.elim
    | some y=>simp only[w] at q;exact⟨y,w,q⟩
 ·cases o:G l with
  | ok d u=>rw[o] at q;exact q
  | bad=>rw[o] at q;exact q
  | exc x u=>
    rw[o] at q;obtain⟨y,w,q⟩:=q;simp only[w];exact q
structure xj5(P:Program)(w:World)(K:PySem.W.Frag)(mg:Str->Option Value)(base:Heap)(k:Nat)(C:Addr)(x:Str)(ps:List Str)(G:List D->Res Unit D):Prop where
 ex:∃f fd,mg x=some (.ref f)/\keepIn K (.ref f)=true/\wz7 K fd ps []/\wy0 P w K mg base (CX3 P w) k f fd ps (spB K C G)
def vq0(X:Cx)(C:Addr)(E:XK):Prop:=∀(A3:List (Addr×Obj)) (σ:St) (H:Hp) (s:Shared) (x T:Addr) (od:Option Addr) (c:Value),Inv X A3 σ H s->XAt s.heap x (.ref C) od (.ref T) c->vb0 s.heap T (rawInt X.env.locals)->T≠x->X.s₀.heap.get? x=none->X.s₀.heap.get? T=none->H x=none->H T=none->E (.ref C) od H->X.xe (.ref x) s
def xm2{P:Program}{w:World}{K:PySem.W.Frag}{mg:Str->Option Value}{base:Heap}{N:List Str}{qual:Str}{scope:Scope}{f C:Addr}{cd:Value}{A:Around}{outer:List Env}{s:Shared}{H:Hp}{E:XK} :
 vq0 (wx0 (CX2 P w) P w K mg base N qual scope f cd A outer s H E) C E:=λA3 σ H1 s1 x T od c I hx hT ne nx nT fx fT hE=>wr3 I rfl rfl rfl hx trivial hT ne nx fx nT fT hE
section
variable{X:Cx}{S:Type}{W:Wd S}{c:Dx W}{k:Nat}{x:Str}{ps:List Str}{e:Expr}{es:List Expr}{E:XK}{C:Addr}{G:List D->Res Unit D}{f:FnA S}
def wl2{ia inn im:Nat}{a n b m:Str}{jz:Nat}(CC:xj5 X.prog X.w X.K X.mg X.base k C x ps G)(hK:X.K=c.K)(hr:wv8 k X.A)(h2:2<=k)(hg:Gl X x)(ha:DA X.nox c (e::es) f)(hst:X.stack=X.env::X.outer)(hfr:X.env.frame=some X.env.locals)(hex:X.ex=[])(hN:X.N.Nodup)(ja:X.N[ia]?=some a)(jn:X.N[inn]?=some n)(jm:X.N[im]?=some m)(la:X.env.kindOf a=some .local)(ln:X.env.kindOf n=some .local)(lm:X.env.kindOf m=some .local)(hmn:im≠inn)(gb:Gl X b)(mb:X.mg b=some (.ref C))(B:vh7 X.K X.mg C)(L:va3 X.K C)(a2:PySem.W.findIn X.K (.ref C) "step" = some none)(hE:∀x st H',c.Ex x st H'->exB C E x H')(md:vq0 X C E)(hdb:(x == ("__debug__" : Str))=false:=by decide)(hdn:(b == ("__debug__" : Str))=false:=by decide)(hdv:(n == ("__debug__" : Str))=false:=by decide)(hcv:(n == ("__classdict__" : Str))=false:=by decide)(hdm:(m == ("__debug__" : Str))=false:=by decide)(hcm:(m == ("__classdict__" : Str))=false:=by decide)(he:starEach (e::es) X.env=(false,eval e X.env)::starEach es X.env:=by rfl)(hplA:(backTo pos (starEach es X.env)).any (·.1)=false:=by rfl)(hs:swapsWith (.Call (.Name x p) (e::es) [] pos) (some (.Name a pa)) p1.line X.env=pure false:=by rfl)(hab:attributeBase (.Name n pn) "step" X.env (eval (.Name n pn) X.env)=eval (.Name n pn) X.env:=by rfl)(hst1:starEach [.Name m pm,.Attribute (.Name n pn) "step" pat] X.env=(false,eval (.Name m pm) X.env)::starEach [.Attribute (.Name n pn) "step" pat] X.env:=by rfl)(hst2:starEach [.Attribute (.Name n pn) "step" pat] X.env=(false,eval (.Attribute (.Name n pn) "step" pat) X.env)::starEach [] X.env:=by rfl)(hpl:(backTo cp (starEach [.Attribute (.Name n pn) "step" pat] X.env)).any (·.1)=false:=by rfl) :
 DS X c (.Try [.Assign [.Name a pa] (.Call (.Name x p) (e::es) [] pos) p1] [.ExceptHandler (some (.Name b pb)) (some n) [.Raise (some (.Call (.Name b pb2) [.Name m pm,.Attribute (.Name n pn) "step" pat] [] cp)) (some (.Constant .none jz pz)) p2] p3] [] [] p4) (vm8 S ia (vj3 S im G f)):=by
 intro A3 s σ H D I h;obtain⟨fa,fd,hm,hk,hb,F⟩:=CC.ex;obtain⟨ρ,st,R,ok,w⟩:=(xo6 h:tD c .F (vj3 S im G f) σ H λv H1=>D.nx (σ.set ia (some v)) H1);have args:tDA c f σ H λvs H1=>spB X.K C G vs H1 (λv H'=>D.nx (σ.set ia (some v)) H') (λCc od H'=>Cc=.ref C/\∃(dx:Addr) (i j z:Int),od=some dx/\H' dx=some (xdB i j)/\j.natAbs.log2<1920/\σ[im]?=some (some (.int z))/\z.natAbs.log2<1920/\∀dx',H' dx'=none->E (.ref C) (some dx') (upd H' dx' (xdB z j))):=by
  refine⟨ρ,st,R,ok,za8 (za4.mp w) (λl st1 q vs H1 e1 ok1 z=>?_) λx st1 q=>q⟩;rw[hK];refine⟨l,IsL.mono (A:=λb=>¬W.mv b) ⟨λ_ _ z _=>z,λb o a z=>⟨trivial,z⟩⟩ z,?_⟩;have stays:∀{H'},wx4 H1 H'->W.ok st1 H':=λs=>W.stay st1 H1 _ ok1 λb o _ hb=>s b o hb
  cases q':G l with
  | bad=>rw[q'] at q;exact q.elim
  | ok d u=>
    rw[q'] at q;intro v H' sm n';have n2:New c H1 H' d v:=Is.mono (A:=λb=>H1 b=none) ⟨λ_ _ z _=>z,λb o a z=>⟨⟨zn7 ok1 a,a⟩,z⟩⟩ n';exact q v H' (e1.trans sm.ext) (stays sm) ((n2.val (R.ext ok e1) .F).back e1 ok1)
  | exc y u=>
    rw[q'] at q;cases o:ym9 y (ρ[im]?:Option Sl) with
    | none=>simp only[o] at q;exact q.elim
    | some y2=>
      simp only[o] at q;obtain⟨a0,j,z0,ea,em,rfl,hz,hj⟩:=xb0 o;intro H' sm a1 b1 hab1 dx hdx;rw[ea] at hab1;cases hab1;have sl:=R.slot im _ em;obtain⟨v,ev,iv⟩:=(show ∃v,(σ[im]?).join=some v/\Is c.K _ H (.int z0) v from sl);have hv:=Is.int_iff.mp iv;subst hv;have hs2:σ[im]?=some (some (.int z0)):=by
       cases q3:σ[im]? with
       | none=>rw[q3] at ev;cases ev
       | some o3=>rw[q3] at ev;rw[show o3=some (.int z0) from ev]
      have sm2:wx4 H1 (upd H' dx (xdB a0 j)):=λb o e=>by rw[za9 (zb1 (sm b o e) hdx)];exact sm b o e
      refine⟨rfl,dx,a0,j,z0,rfl,zb3,hj,hs2,hz,λdx' hdx'=>?_⟩;exact hE _ _ _ (q (upd H' dx (xdB a0 j)) (e1.trans sm2.ext) (stays sm2)) z0 j rfl dx' hdx'
 have hcall:=vy5 (X:=X.nox) (CX:=CX3 X.prog X.w) (p:=p) (pos:=pos) F hr hg hm hk hb ha (I.wish _) args (λ_ _ z=>z) hdb he hplA;refine xo4 (k:=k-2) (E:=E) (ia:=ia) (inn:=inn) (im:=im) I (Ae1 hcall (λv s1 ⟨y,H1,I1,r1,q1⟩=>⟨y,H1,I1.unwish,r1,q1⟩) λe s1 ⟨H1,s0,I1,c1⟩=>⟨H1,s0,I1.unwish,c1⟩) hst hfr hex (hr.mono (by omega)) hN ja jn jm la ln lm hmn gb mb B L a2 (λ_ _ _ z=>z) (λv H' s' I' q=>⟨_,_,I',q⟩) md hdn hdv hcv hdm hcm hs hab hst1 hst2 hpl
def ve4{α:Type}(k:Nat)(y:α)(xs:List α):List α:=xs.take k++y::xs.drop k
def yj5{α:Type}{k:Nat}{y:α}{xs:List α}:(ve4 k y xs).length=xs.length+1:=by
 unfold ve4;rw[An0,Au0,Bf0,List.length_drop];omega
def ua0:V->List V->Hp->VK->Prop:=λx vs H Q=>∃l xs i y,x=.ref l/\vs=[.int i,y]/\H l=some (.lst xs)/\0<=i/\i<=xs.length/\xs.length<sizeLine/\Q .non (upd H l (.lst (ve4 i.toNat y xs)))
def we9:MtM X "list.insert" ua0:=by
 intro A3 s σ H x vs v us Q I rx rv h;obtain⟨l,xs,i,y,rfl,rfl,hH,h1,h2,hz,q⟩:=h;cases rx;obtain⟨u,u2,rfl,ru,ru2⟩:=vc3 rv;obtain⟨t,rfl⟩:=ru;obtain⟨z,its,n,r,hl,e⟩:=I.lstM hH;have hsz:(sizeLine:Int)<2 ^ 63:=by decide
 have hf:Builtin.List.listFitsIndex i=true:=fitsIndex_both (by omega) (by omega);refine call_meets F.slot_list_insert ⟨_,e,rfl⟩ F.entry_list_insert (F.args_list_insert_3 _ _ _) (AutoSeq1.list_insert_list_int_val_1 l its.toArray n i t u2 (by rw[hf];decide) (by rw[Af0];omega)) ⟨e,?_⟩;refine⟨.non,_,I.lset (its':=ve4 i.toNat u2 its) hH e ?_ ((r.take _).append (.cons ru2 (r.drop _))) (show (ve4 i.toNat y xs).length<=sizeLine by rw[yj5];omega),rfl,q⟩;have k0:(if i<0 then (i+(its.toArray.size:Int)).toNat else min i.toNat its.toArray.size)=i.toNat:=by
  rw[if_neg (by omega),Af0];omega
 show (its.toArray.extract 0 (if i<0 then (i+(its.toArray.size:Int)).toNat else min i.toNat its.toArray.size)).push u2++its.toArray.extract (if i<0 then (i+(its.toArray.size:Int)).toNat else min i.toNat its.toArray.size)=_;rw[k0];apply Array.toList_inj.mp;simp[ve4];exact List.take_of_length_le (by simp)
end
section
variable{X:Cx}{S:Type}{W:Wd S}{c:Dx W}{i:Nat}
def vq5(S:Type)(i:Nat)(o:List D->List D->Option (List D))(f:FnA S):FnS S:=λρ st=>match ww2 ρ i with
 | some l=>(f ρ st).bind λd st1=>(ww7 (o l d) st1).bind λl' st2=>.ok (.nx (ρ.set i (.own (.lst l')))) st2
 | none=>.bad
def MtA{S:Type}{W:Wd S}(c:Dx W)(r:V->List V->Hp->VK->Prop)(o:List D->List D->Option (List D)):Prop:=∀l d l' a vs us H (Q:VK),o l d=some l'->D.immL l=true->H a=some (.lst vs)->IsL c.K (λb=>¬W.mv b) H l vs->IsL c.K (λb=>¬W.mv b) H d us->
 (∀y ws,D.immL l'=true->IsL c.K (λb=>¬W.mv b) H l' ws->Q y (upd H a (.lst ws)))->r (.ref a) us H Q
def xu9{x m:Str}{id:String}(hm:MtR X id r)(ho:MtA c r o)(slot:Slot "list" m id)(hty:typeOf (.builtin id)=pure (.type "method_descriptor"))(hx:PE X (.Name x p1) (vb2 i))(he:DA X c (e::es) f)(hbase:attributeBase (.Name x p1) m X.env (eval (.Name x p1) X.env)=eval (.Name x p1) X.env:=by rfl)(hfew:((backTo p3 (starEach (e::es) X.env)).all (λx=>!x.1)&&(backToKw p3 (keywordEach [] X.env)).all (λx=>x.1.isSome)
  && decide ((e::es).length+([]:List Keyword).length+(if ([]:List Keyword).isEmpty then 0 else 1)<30))=true:=by rfl)(hline:(p2.endLine == p3.line)=true:=by rfl)(hs:starEach (e::es) X.env=(false,eval e X.env)::starEach es X.env:=by rfl)(hplain:(backTo p3 (starEach es X.env)).any (·.1)=false:=by rfl)(hsw:swapsWith (.Call (.Attribute (.Name x p1) m p2) (e::es) [] p3) none p4.line X.env=pure false:=by rfl) :
 DS X c (.Expr (.Call (.Attribute (.Name x p1) m p2) (e::es) [] p3) p4) (vq5 S i o f):=
 (yp9 (vk7 PySem.F.plainAttrs_list slot hty hm hx he hbase hfew hline hs hplain) hsw).imp λD σ H hI49=>by
  obtain⟨ρ,st,R,ok,w⟩:=hI49;unfold vq5 at w;cases q:ww2 ρ i with
  | none=>rw[q] at w;exact w.elim
  | some l=>
    rw[q] at w;obtain⟨a,vs,ea,eH,z,nm⟩:=R.lstAt q;refine⟨.ref a,ea,.inl ⟨rfl,vs,.of eH⟩,ρ,st,R,ok,za8 (za4.mp w) (λd st1 q v H1 e ok1 zv=>?_) λx st1 q H1 e ok1=>q H1 (e.f0 R) ok1⟩;obtain⟨l',e',q'⟩:=zb4.mp (za4.mp q);have R1:=R.ext ok e;have eH1:=e a _ eH nm;have kA:ww5 (Av c σ ρ) (λb=>¬W.mv b) H1 H1:=⟨λ_ _ z _=>z,λb o a z=>⟨a.1,z⟩⟩;refine ho l d l' a vs v H1 _ e' (yj0 (by assumption)).2 eH1 (IsL.mono kA (z.mono (e.keepT ok λb a=>⟨a.1,a⟩))) zv λy us m' z'=>?_
    obtain⟨R2,F2⟩:=R1.wr (d':=.lst l') (o:=.lst us) (zw9 (by assumption)) ea ⟨(λu z=>by cases z),(λob u z=>by cases z)⟩ λk=>⟨us,zb3,IsL.mono k (IsL.ofImm m' z')⟩
    exact q' σ _ (e.frm.trans F2) (yv2 ok1 nm) R2
def vl2(l d:List D):Option (List D):=match d with
 | [.int j]=>if 0<=j/\j<l.length/\l.length<=sizeLine then some (l.eraseIdx j.toNat) else none
 | _=>none
def vr2(l d:List D):Option (List D):=match d with
 | [.int j,x]=>if x.imm=true/\0<=j/\j<=l.length/\l.length<sizeLine then some (ve4 j.toNat x l) else none
 | _=>none
theorem IsL.erase{K:PySem.W.Frag}{A:Addr->Prop}{H:Hp}:∀{l:List D} {vs:List V} (n:Nat),IsL K A H l vs->IsL K A H (l.eraseIdx n) (vs.eraseIdx n)
 | [],vs,n,h=>by rw[IsL.nil.mp h];exact IsL.nil.mpr rfl
 | x::l,vs,0,h=>by
   obtain⟨w,r,e,i,j⟩:=IsL.cons.mp h;subst e;exact j
 | x::l,vs,n+1,h=>by
   obtain⟨w,r,e,i,j⟩:=IsL.cons.mp h;subst e;exact IsL.cons.mpr ⟨w,r.eraseIdx n,rfl,i,IsL.erase n j⟩
theorem yf8:D.immL l=true↔∀d∈l,d.imm=true:=⟨λh d hd=>zs5 h hd,λh=>by
 induction l with
 | nil=>rfl
 | cons a l ih=>simp[D.immL,h a (.head _),ih λd hd=>h d (.tail _ hd)]⟩
def vw2{K:PySem.W.Frag}{A:Addr->Prop}{H:Hp}{a:Int}{vs:List V}(h:IsL K A H [.int a] vs):vs=[.int a]:=by
 obtain⟨v,r,e,i,j⟩:=IsL.cons.mp h;rw[e,Is.int_iff.mp i,IsL.nil.mp j]
open H in
def wk1:MtA c we0 vl2:=by
 intro l d l' a vs us H Q e im eH z zv q;unfold vl2 at e;split at e
 ·rename_i j
  split at e
  ·rename_i h
   cases e;have hu:=vw2 zv;subst hu;have hl:j.toNat<vs.length:=by rw[<-z.length];omega
   have hs:(sizeLine:Int)<2 ^ 63:=by decide
   refine⟨a,vs,j,j.toNat,vs[j.toNat],rfl,rfl,eH,by omega,by omega,PySem.StrLaws.seqIndex_nonneg h.1 (by rw[<-z.length];exact h.2.1),Ad0 hl,q _ _ (yf8.mpr λd hd=>zs5 im (List.mem_of_mem_eraseIdx hd)) (z.erase _)⟩
  ·cases e
 ·cases e
open H in
def wf1:MtA c ua0 vr2:=by
 intro l d l' a vs us H Q e im eH z zv q;unfold vr2 at e;split at e
 ·rename_i j x
  split at e
  ·rename_i h
   cases e;obtain⟨v,r,e1,i1,i2⟩:=IsL.cons.mp zv;obtain⟨v2,r2,e2,i3,i4⟩:=IsL.cons.mp i2;have e4:=IsL.nil.mp i4;have e5:=Is.int_iff.mp i1;subst e1 e2 e4 e5;refine⟨a,vs,j,v2,rfl,rfl,eH,h.2.1,by rw[<-z.length];exact h.2.2.1,by rw[<-z.length];exact h.2.2.2,q _ _ (yf8.mpr λd hd=>?_) ((z.take _).append (IsL.cons.mpr ⟨v2,_,rfl,i3,z.drop _⟩))⟩;rcases Ay0.mp hd with hd | hd
   ·exact zs5 im (List.mem_of_mem_take hd)
   ·rcases Aj0.mp hd with hd | hd
    ·rw[hd];exact h.1
    ·exact zs5 im (List.mem_of_mem_drop hd)
  ·cases e
 ·cases e
section
variable{ρ:Rho}{st:S}{Q:Fl->S->Prop}{E:Exn->S->Prop}
theorem yz0:wpR (vq5 S i o f ρ st) Q E↔∃l,ww2 ρ i=some l/\wpR (f ρ st) (λd st1=>∃l',o l d=some l'/\Q (.nx (ρ.set i (.own (.lst l')))) st1) E:=by
 unfold vq5;cases ww2 ρ i with
 | none=>exact yc6
 | some l=>
   refine yc5 (wpB λd st1=>?_);rw[za4,zb4];exact Iff.rfl
end
end
def stm(s:Stmt)(k:Nat):Stmt:=(zb9 s).getD k (.Pass ⟨0,0,0,0⟩)
section
variable{X:Cx}{S:Type}{W:Wd S}{c:Dx W}{A3:List (Addr×Obj)}{σ:St}{H:Hp}{s:Shared}
def vi4{S:Type}{W:Wd S}(c:Dx W)(f:FnT S)(F:FnS S):TS:=λD σ H=>∃ρ st,Rep c H σ ρ/\W.ok st H/\
 wpR (f ρ st) (λb st'=>∀H',Ext W H H'->W.ok st' H'->if b=true then wpR (F ρ st') (wz0 c D σ ρ H') (vg2 c) else D.nx σ H') λx st'=>∀H',Ext W H H'->W.ok st' H'->c.Ex x st' H'
def xa4(ht:DT X c e f)(hb:DSs X c body F):PS X (.If e body [] pos) (vi4 c f F):=
 (vc5 ht hb zx8).imp λD σ H hI50=>by
  obtain⟨ρ,st,R,ok,w⟩:=hI50;refine⟨ρ,st,R,ok,za8 w (λb st' q H' e' ok'=>?_) λx st' q=>q⟩;have q:=q H' e' ok';cases b with
  | true=>rw[if_pos rfl] at q;exact⟨ρ,st',R.ext ok e',ok',q⟩
  | false=>rw[if_neg Bh0] at q;exact q
open H in
theorem zn2{st:Stmt}{wx2:List Stmt}{t:TS}{N:St->Hp->Prop}{D:vf8}(h:PS X st t)(I:Inv X A3 σ H s)(ht:t { nx:=N,rt:=D.rt } σ H)(k:∀s' σ' H',Inv X A3 σ' H' s'->N σ' H'->wpAny (model X.prog X.w) X.A (execs wx2 X.env) (SP X A3 D) X.xe s'):wpAny (model X.prog X.w) X.A (execs (st::wx2) X.env) (SP X A3 D) X.xe s:=by
 refine wpAny_execs_cons (thn (h A3 s σ H _ I ht) λf s1 q=>?_);cases f with
 | next=>
   obtain⟨σ',H',I',n⟩:=q;exact k s1 σ' H' I' n
 | ret v=>exact q
 | brk=>obtain⟨_,_,_,z⟩:=q;exact z.elim
 | cont=>obtain⟨_,_,_,z⟩:=q;exact z.elim
def vi8{st0 st:Stmt}{wx2:List Stmt}{k:Nat}{t:TS}(e:(zb9 st0).drop k=st::wx2)(h:PS X st t):PS X (stm st0 k) t:=by
 have:stm st0 k=st:=by
  unfold stm;rw[Bl0,<-List.head?_drop,e];rfl
 rw[this];exact h
def vx8{st0 st:Stmt}{wx2:List Stmt}{k:Nat}{F:FnS S}(e:(zb9 st0).drop k=st::wx2)(h:DS X c st F):DS X c (stm st0 k) F:=vi8 e h
def yf2{K:PySem.W.Frag}{ρ:Rho}(hl:σ.length=ρ.length)(h:∀(i:Nat) (x:Sl),ρ[i]?=some x->x=.no\/∃d v,x=.bor d/\σ[i]?=some (some v)/\Is K (λ_=>True) H d v):Rep (cx0 K H) H σ ρ:=by
 have no:∀b,¬Ow σ ρ b:=λb hI51=>by
  obtain⟨i,d,e,_⟩:=hI51;rcases h i _ e with z | ⟨_,_,z,_⟩<;>cases z
 refine⟨hl,λ_ _ e _=>e,λi x e=>?_,λb z=>z.elim,λi j a d e h1 _ _ _=>?_⟩
 ·rcases h i x e with z | ⟨d,v,z,ev,is⟩
  ·subst z;exact trivial
  ·subst z
   exact⟨v,by rw[ev];rfl,is.mono ⟨λ_ _ z _=>z,λb o _ z=>⟨⟨λm=>m,no b,λm=>m⟩,z⟩⟩⟩
 ·rcases h i _ h1 with z | ⟨_,_,z,_⟩<;>cases z
def Is.top{K:PySem.W.Frag}{A:Addr->Prop}{d:D}{v:V}(h:Is K A H d v):Is K (λ_=>True) H d v:=h.mono ⟨λ_ _ z _=>z,λb o _ z=>⟨trivial,z⟩⟩
def Is.same{K:PySem.W.Frag}{H':Hp}{d:D}{v:V}(h:Is K (λ_=>True) H d v)(e:∀b o,H b=some o->H' b=some o):Is K (λ_=>True) H' d v:=h.mono ⟨λb o z _=>e b o z,λb o _ z=>⟨trivial,e b o z⟩⟩
def vk9(l:List D):Option D:=if l.length<=sizeLine then some (.tup l) else none
open H in
def wl6{x1}(h:DA X c es f):DE X c .R (.Tuple es x1 pos) (fA S vk9 f):=(yh5 h).imp λσ H Q hI52=>by
 obtain⟨ρ,st,R,ok,w⟩:=hI52;refine⟨ρ,st,R,ok,za8 (za4.mp w) (λl st1 q vs H1 e ok1 z=>?_) λx st1 q=>q⟩;obtain⟨d,e1,q⟩:=zb4.mp q;unfold vk9 at e1;split at e1
 ·rename_i h
  cases e1;refine⟨by rw[<-z.length];exact h,λp hp=>q _ _ (e.trans (Ext.laid hp)) (zg7 ok1 hp) ?_⟩;have k:ww5 (λb=>¬W.mv b) (λb=>¬W.mv b) H1 (upd H1 p (.tup vs)):=⟨λb o e _=>by rw[za9 (zb1 e hp)];exact e,λb o a e=>⟨a,by rw[za9 (zb1 e hp)];exact e⟩⟩;show Is c.K (λb=>¬W.mv b) _ (.tup l) _;unfold Is;exact⟨p,vs,rfl,zb3,z.mono k⟩
 ·cases e1
def xf2{k:Nat}{x:Str}(C:zc1 X.prog X.w X.K X.mg X.base k x ps (sp0 X.K G))(hr:wv8 k X.A)(hg:Gl X x)(ha:PA X (e::es) t)(hdb:(x == ("__debug__" : Str))=false:=by decide)(he:starEach (e::es) X.env=(false,eval e X.env)::starEach es X.env:=by rfl)(hpl:(backTo pos (starEach es X.env)).any (·.1)=false:=by rfl):PE X (.Call (.Name x p) (e::es) [] pos) (vd8 (sp0 X.K G) [] E0 t):=by
 obtain⟨fa,fd,hm,hk,hb,F⟩:=C.ex;exact yb8 (E:=E0) F hr hg hm hk hb .nil vg6 ha hdb he hpl
def xr4{k:Nat}{x:Str}(C:zc1 X.prog X.w X.K X.mg X.base k x ps (spT ga X.K G))(hr:wv8 k X.A)(hg:Gl X x)(ha:PA X (e::es) t)(hdb:(x == ("__debug__" : Str))=false:=by decide)(he:starEach (e::es) X.env=(false,eval e X.env)::starEach es X.env:=by rfl)(hpl:(backTo pos (starEach es X.env)).any (·.1)=false:=by rfl):PE X (.Call (.Name x p) (e::es) [] pos) (vd8 (spT ga X.K G) [] E0 t):=by
 obtain⟨fa,fd,hm,hk,hb,F⟩:=C.ex;exact yb8 (E:=E0) F hr hg hm hk hb .nil vg6 ha hdb he hpl
end
section
variable{prog:Program}{w:World}{A:Around}{E:Value->Shared->Prop}{s:Shared}{I l:Addr}{its:Array Value}
def xl1:typeLookup (.type "list_reverseiterator") "__len__" = pure none:=by rw[typeLookup_type,builtinLookup_eq_fast];kernel_rfl
def xy9:typeLookup (.type "list_reverseiterator") "__length_hint__" = pure (some (.builtin "list_reverseiterator.__length_hint__")):=by rw[typeLookup_type,builtinLookup_eq_fast];kernel_rfl
def wb9{Q:Bool->Shared->Prop}(ty:s.TypeIs (.ref I) "list_reverseiterator")(q:Q false s):wpAny (model prog w) A (Builtin.List.listLengthHint (.ref I)) Q E s:=by
 have sub:isSubtype (.type "list_reverseiterator") (.type "list_reverseiterator")=pure true:=by rw[isSubtype_type];kernel_rfl
 have sp:splitId "list_reverseiterator.__length_hint__" = some ("list_reverseiterator","__length_hint__"):=by decide +kernel
 unfold Builtin.List.listLengthHint;refine Aa1 (wpAny_specialOf ty xl1 ?_);show wpAny _ _ (specialOf (.ref I) "__length_hint__" >>= _) _ _ _;refine Aa1 (wpAny_specialOf ty xy9 ?_);generalize nm:("list_reverseiterator.__length_hint__" : String)=z at sp
 wp_delta
 rw[sp];subst nm;refine Aa1 (wpAny_isInstance (b:=true) ty sub ?_);refine wpAny_ite_split (λno=>absurd no (by decide)) λ_=>?_
 refine wpAny_ite_split (λ_=>?_) λno=>absurd (by decide +kernel) no
 refine wpAny_ite_split (λno=>absurd no (by decide +kernel)) λ_=>?_
 exact Ab1 q
def xp4{n:Nat}{acc:Array Value}(e:its.size=n)(h:ItemsOf (λi v=>its[its.size-1-i]?=some v) acc n):acc.toList=its.toList.reverse:=by
 subst e;apply Cn0;intro j;rw[Array.getElem?_toList];by_cases hj:j<its.size
 ·have ha:j<acc.size:=by rw[h.1];exact hj
  have hv:=h.2 j _ (Ci0 ha);rw[Ci0 ha,List.getElem?_reverse (by simpa using hj),Array.getElem?_toList,<-hv];simp
 ·rw[Array.getElem?_eq_none (by rw[h.1];omega),List.getElem?_eq_none (by simp;omega)]
def wb0{Q:Value->Shared->Prop}(hh:A.handled=none)(hi:s.heap.IsRevIter I l ((its.size:Int)-1))(hl:s.heap.IsList l its)(hne:l≠I)(hn:its.size<=sizeLine)(hQ:∀h' tk acc c,(∀b o,b≠I->s.heap.get? b=some o->h'.get? b=some o)->h'.get? s.heap.objs.size=some { cls:=.type "list",data:=.seq acc c }->acc.toList=its.toList.reverse->Q (.ref s.heap.objs.size) { s with heap:=h',toks:=tk }) :
 wpAny (model prog w) A (call (.type "list") [.ref I]) Q E s:=by
 have lI:I<s.heap.objs.size:=by obtain⟨o,ho,_⟩:=hi;exact Heap.lt_size ho
 have ll:l<s.heap.objs.size:=by obtain⟨o,ho,_⟩:=hl;exact Heap.lt_size ho
 refine callType_codes (Q₁:=λx t=>x=.ref s.heap.objs.size/\t={ s with heap:=s.heap.push { cls:=.type "list",data:=.seq #[] } }) PySem.F.called_list (PySem.F.typeCall_list_1 _) PySem.F.entry_list_init (code_list_new _ ⟨rfl,rfl⟩) λx t hI137=>?_
 obtain⟨e1,e2⟩:=hI137;subst e1 e2;have new:(s.heap.push { cls:=.type "list",data:=.seq #[] }).get? s.heap.objs.size=some { cls:=.type "list",data:=.seq #[] }:=Ak0 _ rfl;have hi1:=hi.at λo e=>Ab0 { cls:=.type "list",data:=.seq #[] } e
 have hl1:=hl.at λo e=>Ab0 { cls:=.type "list",data:=.seq #[] } e
 have old:∀b o,s.heap.get? b=some o->(s.heap.push { cls:=.type "list",data:=.seq #[] }).get? b=some o:=λb o e=>Ab0 _ e
 generalize hS:s.heap.objs.size=S at *;generalize hp:s.heap.push { cls:=.type "list",data:=.seq #[] }=h1 at *;refine⟨⟨_,new,rfl⟩,PySem.F.args_list_init_2 _ _,?_⟩;unfold Builtin.«list.__init__»;dsimp only;unfold Builtin.List.listItems;refine Aa1 (Aa1 (Ah1 new rfl (Ab1 ?_)));refine Aa1 (show wpAny _ _ (updateSeq S λ_=>#[]) _ _ _ from wpAny_updateSeq new rfl ?_);have up:∀b o,b≠S->h1.get? b=some o->(h1.update S (Obj.mapSeq λ_=>(#[]:Array Value))).get? b=some o:=λb o ne e=>(Cm0 _ _ (Ne.symm ne)).trans e
 have new2:=Ce0 (Obj.mapSeq λ_=>(#[]:Array Value)) new rfl;have hi2:=hi1.at λo e=>up I o (Ar0 lI) e
 have hl2:=hl1.at λo e=>up l o (Ar0 ll) e
 generalize hq:h1.update S (Obj.mapSeq λ_=>(#[]:Array Value))=h2 at up new2 hi2 hl2 ⊢;refine Aa1 (wpAny_letGo ?_);have ty:Shared.TypeIs { s with heap:=h2 } (.ref I) "list_reverseiterator":=hi2.typeIs;have n0:Builtin.List.listSameRef (.ref S) (.ref I)=false:=by
  have:S≠I:=By0 lI;simp[Builtin.List.listSameRef,this]
 have n1:(Value.type "list_reverseiterator" == Value.type "list")=false:=by decide
 have n2:(Value.type "list_reverseiterator" == Value.type "tuple")=false:=by decide
 unfold Builtin.List.listExtendWith;refine Aa1 (wpAny_typeOf ty ?_);simp only[n0,n1,n2,Bool.or_false,Bz0,if_false];refine Aa1 (wpAny_pyIter_revIter hi2 ?_);refine Aa1 (wpAny_holding (wb9 ty ?_));have hh2:A.in1.in1.handled=none:=by simp[hh]
 have W:=Walks.listRev (prog:=prog) (w:=w) hh2 I l hne its;have go:∀(h3:Heap) (c tk:Nat),(∀b o,b≠S->b≠I->s.heap.get? b=some o->h3.get? b=some o)->h3.IsRevIter I l ((its.size:Int)-1)->h3.IsList l its->h3.get? S=some { cls:=.type "list",data:=.seq #[] c }->
  codeAny (model prog w) A.in1 (.builtin "list.extend.loop" ⟨[.ref S,.ref I,.none],[]⟩) (wants (λr s2=>r=.none/\Q (.ref S) s2) E) { s with heap:=h3,toks:=tk }:=λh3 c tk k3 i3 l3 g3=>by
  have e0:(its.size:Int)-1-((0:Nat):Int)=(its.size:Int)-1:=by omega
  have nS:S∉[I,l]:=λm=>by
   rcases Aj0.mp m with z | m
   ·exact Bc0 _ (z▸lI)
   ·exact Bc0 _ (Ae0.mp m▸ll)
  refine codeAny_extend_loopS W.toS hn S nS .none its.size 0 _ #[] c rfl (Bb0 _) ⟨Bb0 _,by rw[e0];exact i3,l3⟩ g3 (ItemsOf.nil _) λs' acc c' mv gS it=>?_
  rw[Moved.eq_with mv];refine⟨rfl,hQ _ _ acc c' (λb o nb e=>mv.heap b o (λm=>?_) (k3 b o (λz=>?_) nb e)) gS (xp4 rfl it)⟩
  ·rcases Aj0.mp m with z | m
   ·exact absurd (Heap.lt_size e) (by rw[z,hS];exact Bc0 _)
   ·exact nb (Ae0.mp m)
  ·exact absurd (Heap.lt_size e) (by rw[z,hS];exact Bc0 _)
 have k2:∀b o,b≠S->b≠I->s.heap.get? b=some o->h2.get? b=some o:=λb o nb _ e=>up b o nb (old b o e)
 refine wpAny_ite_split (λyes=>?_) λ_=>Ab1 ⟨plainId_quiet PySem.F.plain_extend_loop _,go _ _ _ k2 hi2 hl2 new2⟩
 exact absurd yes (by decide +kernel)
end
section
variable{X:Cx}{e:Expr}{te:TE}
def ys4:bootBuiltins "reversed" = some (.type "reversed"):=by first | rfl | kernel_rfl
def uc5(te:TE):TE:=λσ H Q=>te σ H λv H1=>∃l xs,[v]=[V.ref l]/\H1 l=some (.lst xs)/\∀p,H1 p=none->Q (.ref p) (upd H1 p (.lst xs.reverse))
def xl3{p1 p2 p3 p4:Pos}(hc:X.A.handled=none)(g1:Gl X "list")(m1:X.mg "list" = none)(g2:Gl X "reversed")(m2:X.mg "reversed" = none)(he:PE X e te)(s1:starEach [e] X.env=(false,eval e X.env)::starEach [] X.env:=by rfl)(n1:(backTo p3 (starEach [] X.env)).any (·.1)=false:=by rfl)(s2:starEach [.Call (.Name "reversed" p2) [e] [] p3] X.env=(false,eval (.Call (.Name "reversed" p2) [e] [] p3) X.env)::starEach [] X.env:=by rfl)(n2:(backTo p4 (starEach [] X.env)).any (·.1)=false:=by rfl) :
 PE X (.Call (.Name "list" p1) [.Call (.Name "reversed" p2) [e] [] p3] [] p4) (uc5 te):=by
 intro A3 s σ H Q I h;refine wpAny_Call_Name_kw (ya7 I g1 m1 boot_list ?_ (by decide) (by decide));refine PyProof.Rows.callWith_type1 (Q:=EP X A3 σ Q) ?_ s2 n2;rw[s2];refine Calls.spliced_cons ?_;refine wpAny_Call_Name_kw (ya7 I g2 m2 ys4 ?_ (by decide) (by decide));refine PyProof.Rows.callWith_type1 ?_ s1 n1;refine thn (zb8 he zf4 s1 p3 A3 s σ H (λvs H1=>∃l xs,vs=[.ref l]/\H1 l=some (.lst xs)/\∀p,H1 p=none->Q (.ref p) (upd H1 p (.lst xs.reverse))) I ?_) λus t hI138=>?_
 ·exact h
 obtain⟨vs,H1,I1,r1,l,xs,ev,hl,q⟩:=hI138;subst ev;obtain⟨u,rfl,ru⟩:=va4 r1;cases ru;obtain⟨z,its,n,r,hlen,eo⟩:=I1.lstM hl;have lt:l<t.heap.objs.size:=Heap.lt_size eo;refine call_reversed_list (items:=its.toArray) ⟨_,eo,rfl,n,rfl⟩ ?_;refine Calls.spliced_nil ?_;have sz:its.toArray.size<=sizeLine:=by rw[Af0];omega
 refine wb0 (I:=t.heap.objs.size) (l:=l) (its:=its.toArray) hc ⟨_,Ak0 _ rfl,rfl,rfl⟩ ⟨_,Ab0 _ eo,rfl,n,rfl⟩ (Ar0 lt) sz λh' tk acc c keep gS ea=>?_
 have ea:acc=its.reverse.toArray:=by
  apply Array.toList_inj.mp;rw[ea]
 subst ea;rw[Bq0] at gS ⊢;refine⟨.ref (t.heap.objs.size+1),_,I1.laid (o:=.lst xs.reverse) (λb o e=>keep b o (Ar0 (Heap.lt_size e)) (Ab0 _ e)) (Nat.le_succ _) ⟨by rw[List.length_reverse];omega,its.reverse,c,r.reverse,gS⟩,rfl,q _ (I1.hok.fresh (Nat.le_succ _))⟩
variable{S:Type}{W:Wd S}{c:Dx W}{g ga:Gr}
def f1(S:Type)(o:D->Option D)(f:Fn S):Fn S:=λρ st=>(f ρ st).bind λd st1=>ww7 (o d) st1
def vs6{o:D->Option D}{f:Fn S}{ρ:Rho}{st:S}{Q:D->S->Prop}{E:Exn->S->Prop}:wpR (f1 S o f ρ st) Q E↔wpR (f ρ st) (λd st1=>∃d',o d=some d'/\Q d' st1) E:=wpB λd st1=>zb4
def vo5(d:D):Option D:=match d with
 | .lst l=>if D.immL l=true then some (.lst l.reverse) else none
 | _=>none
def xm9{k:Nat}{p1 p2 p3 p4:Pos}{f:Fn S}(hr:wv8 k X.A)(g1:Gl X "list")(m1:X.mg "list" = none)(g2:Gl X "reversed")(m2:X.mg "reversed" = none)(he:DE X c ga e f)(s1:starEach [e] X.env=(false,eval e X.env)::starEach [] X.env:=by rfl)(n1:(backTo p3 (starEach [] X.env)).any (·.1)=false:=by rfl)(s2:starEach [.Call (.Name "reversed" p2) [e] [] p3] X.env=(false,eval (.Call (.Name "reversed" p2) [e] [] p3) X.env)::starEach [] X.env:=by rfl)(n2:(backTo p4 (starEach [] X.env)).any (·.1)=false:=by rfl) :
 DE X c g (.Call (.Name "list" p1) [.Call (.Name "reversed" p2) [e] [] p3] [] p4) (f1 S vo5 f):=
 (xl3 hr.hd g1 m1 g2 m2 he s1 n1 s2 n2).imp λσ H Q hI53=>by
  obtain⟨ρ,st,R,ok,w⟩:=hI53;refine⟨ρ,st,R,ok,za8 (za4.mp w) (λd st1 q v H1 e1 ok1 z=>?_) λx st1 q=>q⟩;obtain⟨d',ed,q⟩:=zb4.mp q;cases d with
  | lst l=>
    have ed:(if D.immL l=true then some (D.lst l.reverse) else none)=some d':=ed;by_cases im:D.immL l=true
    ·rw[if_pos im] at ed
     cases ed;obtain⟨a,vs,rfl,_,hv,zl⟩:=Is.lst_iff.mp z.toR;have im':D.immL l.reverse=true:=yf8.mpr λd hd=>zs5 im (List.mem_reverse.mp hd)
     exact⟨a,vs,rfl,hv,λp hp=>q _ _ (e1.trans (Ext.laid hp)) (zg7 ok1 hp) (((New.lst ok1 hp (λ_ n=>n) im' zl.reverse).val (R.ext ok e1) g).back e1 ok1)⟩
    ·rw[if_neg im] at ed;cases ed
  | _=>cases ed
end
section
variable{X:Cx}{A3:List (Addr×Obj)}{σ:St}{H:Hp}{s:Shared}
def wl0{A:Around}{a:Addr}{its:Array Value}(h:s.heap.IsTuple a its)(hu:A.units<cLine):EqAt A s (.ref a) .none false:=λprog w E Q hq=>by
 unfold eqBool;refine wpAny_holding (wpAny_ite_split (λz=>?_) λ_=>Aa1 (RcAt.tuple_none h hu prog w E _ (Af1 hq)));cases eq_of_beq z
def D.isN:D->Bool
 | .non=>true
 | _=>false
def ua1(K:PySem.W.Frag):R2:=λx y H Q=>x=.non/\∃(l:Addr) (xs:List V) (A:Addr->Prop) (dl:List D),y=.ref l/\H l=some (.lst xs)/\IsL K A H dl xs/\(∀d∈dl,d=.non\/∃m,d=.tup m)/\Q (.bl (dl.any D.isN)) H
def wq5{k:Nat}(hr:wv8 k X.A):OpR X (compareOp .In) (ua1 X.K):=by
 intro A3 s σ H x y v u Q I rx ry h;obtain⟨rfl,l,xs,A,dl,rfl,hH,il,all,q⟩:=h;cases rx;cases ry;have hu:X.A.in1.units<cLine:=by rw[Around.in1_units];have:=hr.units;omega
 obtain⟨z,its,n,rv,hl,eo⟩:=I.lstM hH;have each:∀{dl:List D} {xs:List V} {its:List Value},IsL X.K A H dl xs->wv6 xs its->(∀d∈dl,d=.non\/∃m,d=.tup m)->(∀y∈its,EqAt X.A.in1 s y .none (y == .none))/\its.any (λy=>y == .none)=dl.any D.isN:=by
  intro dl;induction dl with
  | nil=>
    intro xs its i r _;rw[IsL.nil.mp i] at r;cases r;exact⟨λy m=>(by cases m),rfl⟩
  | cons d dl ih=>
    intro xs its i r all;obtain⟨v,xs',rfl,i1,i2⟩:=IsL.cons.mp i;cases r with
    | @cons _ y _ ys r1 r2=>
      obtain⟨e1,e2⟩:=ih i2 r2 λd hd=>all d (.tail _ hd)
      rcases all d (.head _) with e | ⟨m,e⟩
      ·subst e
       have:=Is.non_iff.mp i1;subst this;cases r1;refine⟨λy m=>?_,?_⟩
       ·rcases Aj0.mp m with e | m
        ·subst e;exact EqAt.same _
        ·exact e1 y m
       ·rfl
      ·subst e
       obtain⟨a,vs,rfl,s1,_⟩:=Is.tup_sq i1;cases r1;obtain⟨js,_,p,_⟩:=I.tuple s1;have ne:(Value.ref a == Value.none)=false:=rfl;refine⟨λy m=>?_,?_⟩
       ·rcases Aj0.mp m with e | m
        ·subst e;rw[ne];exact wl0 p hu
        ·exact e1 y m
       ·rw[List.any_cons,ne,Bool.false_or,e2];rfl
 obtain⟨g1,g2⟩:=each il rv all;exact in_listAt (λy=>y == .none) ⟨_,eo,rfl,n,rfl⟩ (λy m=>g1 y (by simpa using m)) ⟨.bl _,H,I,by rw[<-g2];simp;rfl,q⟩
variable{S:Type}{W:Wd S}{c:Dx W}
open Classical in
def vv5(a b:D):Option D:=match a,b with
 | .non,.lst l=>if ∀d∈l,d=.non\/∃m,d=.tup m then some (.bl (l.any D.isN)) else none
 | _,_=>none
def wj8{l:List D}(h:∀d∈l,d=.non\/∃m,d=.tup m):vv5 .non (.lst l)=some (.bl (l.any D.isN)):=by
 classical
 exact if_pos h
open H in
def wq9{K:PySem.W.Frag}(hK:c.K=K):OpD c (ua1 K) vv5:=by
 classical
 subst hK;intro d1 d2 v1 v2 H st d Q ok z1 z2 e q;unfold vv5 at e;split at e
 ·rename_i l
  by_cases h:∀d∈l,d=.non\/∃m,d=.tup m
  ·rw[if_pos h] at e
   cases e;obtain⟨a,vs,ea,_,hH,il⟩:=Is.lst_iff.mp z2;exact⟨Is.non_iff.mp z1,a,vs,_,l,ea,hH,il,h,q _ H Ext.refl ok zq7⟩
  ·rw[if_neg h] at e;cases e
 ·cases e
end
theorem ln1{α:Type}{us:List α}(h:us.length=1):∃a,us=[a]:=by
 match us,h with
 | [a],_=>exact⟨a,rfl⟩
theorem ln2{α:Type}{us:List α}(h:us.length=2):∃a b,us=[a,b]:=by
 match us,h with
 | [a,b],_=>exact⟨a,b,rfl⟩
theorem ln3{α:Type}{us:List α}(h:us.length=3):∃a b c,us=[a,b,c]:=by
 match us,h with
 | [a,b,c],_=>exact⟨a,b,c,rfl⟩
theorem ln4{α:Type}{us:List α}(h:us.length=4):∃a b c d,us=[a,b,c,d]:=by
 match us,h with
 | [a,b,c,d],_=>exact⟨a,b,c,d,rfl⟩
theorem ln5{α:Type}{us:List α}(h:us.length=5):∃a b c d e,us=[a,b,c,d,e]:=by
 match us,h with
 | [a,b,c,d,e],_=>exact⟨a,b,c,d,e,rfl⟩
def At(K:PySem.W.Frag)(x:Str)(st:Stmt):Prop:=∃f fd,nsIn K mainGlobals x=some (some (.ref f))/\Fun K x x st f fd
def vs2(x:Str)(st:Stmt)(ps:List Str):Prop:=∀(kV doc pm:Value) (an:Option Addr) (cdv ct:Value) (us:List Value),us.length=ps.length->bindArgs (fnOf x x (zv4 st) (zb9 st) (za2 st) .none kV doc pm an cdv ct) ⟨us,[]⟩=pure (ps.zip us)
section
variable{K:PySem.W.Frag}{h:Heap}{mg:Str->Option Value}{x:Str}{st:Stmt}{N ps:List Str}{k j:Nat}{P:Program}{w:World}{base:Heap}{sp:Sp}
def zc1.up(C:zc1 P w K mg base k x ps sp)(hk:k<=j:=by decide):zc1 P w K mg base j x ps sp:=by
 obtain⟨f,fd,a,b,c,d⟩:=C.ex;exact⟨f,fd,a,b,c,d.mono hk⟩
def Fun.bd{f:Addr}{fd:FuncData}(F:Fun K x x st f fd)(bd:vs2 x st ps:=by (intro _ _ _ _ _ _ us hl;first | (obtain⟨_,rfl⟩:=ln1 hl;rfl) | (obtain⟨_,_,rfl⟩:=ln2 hl;rfl) | (obtain⟨_,_,_,rfl⟩:=ln3 hl;rfl) | (obtain⟨_,_,_,_,rfl⟩:=ln4 hl;rfl) | (obtain⟨_,_,_,_,_,rfl⟩:=ln5 hl;rfl))):wz7 K fd ps []:=F.binds bd
def vb8(P:Program)(w:World)(base:Heap)(X:K.In h)(G:h.Ns mainGlobals mg){B:FnS Unit}(a:At K x st)(S:zc0 N ps (za2 st))(hb:∀(f:Addr) (cdv:Value) (A:Around) (outer:List Env) (s:Shared) (H:Hp) (E:XK),wv8 k (A.deeper (envOfC x (za2 st) s.heap.objs.size f cdv))->DSs (wx0 CX0 P w K mg base N x (za2 st) f cdv A outer s H E).nox (cx0 K H) (zb9 st) B)(bd:vs2 x st ps:=by (intro _ _ _ _ _ _ us hl;first | (obtain⟨_,rfl⟩:=ln1 hl;rfl) | (obtain⟨_,_,rfl⟩:=ln2 hl;rfl) | (obtain⟨_,_,_,rfl⟩:=ln3 hl;rfl) | (obtain⟨_,_,_,_,rfl⟩:=ln4 hl;rfl) | (obtain⟨_,_,_,_,_,rfl⟩:=ln5 hl;rfl))) :
 zc1 P w K mg base (k+1) x ps (sp0 K (dfn N.length ps.length B)):=by
 obtain⟨f,fd,n,F⟩:=a;exact⟨f,fd,mg_of X G n,F.kp,F.binds bd,Fun.d0 F S λcdv A outer s H E hr=>hb f cdv A outer s H E hr⟩
def vp7{Sx:Type}{W:Wd Sx}(P:Program)(w:World)(base:Heap)(X:K.In h)(G:h.Ns mainGlobals mg){B:FnS Sx}(a:At K x st)(S:zc0 N ps (za2 st))(hb:∀(f:Addr) (cdv:Value) (A:Around) (outer:List Env) (s:Shared) (H:Hp) (E:XK),wv8 k (A.deeper (envOfC x (za2 st) s.heap.objs.size f cdv))->DSs (wx0 CX0 P w K mg base N x (za2 st) f cdv A outer s H E).nox (cxS W K H) (zb9 st) B)(bd:vs2 x st ps:=by (intro _ _ _ _ _ _ us hl;first | (obtain⟨_,rfl⟩:=ln1 hl;rfl) | (obtain⟨_,_,rfl⟩:=ln2 hl;rfl) | (obtain⟨_,_,_,rfl⟩:=ln3 hl;rfl) | (obtain⟨_,_,_,_,rfl⟩:=ln4 hl;rfl) | (obtain⟨_,_,_,_,_,rfl⟩:=ln5 hl;rfl))) :
 zc1 P w K mg base (k+1) x ps (spS W K (vh4 N.length ps.length B)):=by
 obtain⟨f,fd,n,F⟩:=a;exact⟨f,fd,mg_of X G n,F.kp,F.binds bd,Fun.dS F S λcdv A outer s H E hr=>hb f cdv A outer s H E hr⟩
def vp8(P:Program)(w:World)(base:Heap)(X:K.In h)(G:h.Ns mainGlobals mg)(a:At K x st)(ok:∀f fd,Fun K x x st f fd->wy0 P w K mg base CX0 k f fd ps sp)(bd:vs2 x st ps:=by (intro _ _ _ _ _ _ us hl;first | (obtain⟨_,rfl⟩:=ln1 hl;rfl) | (obtain⟨_,_,rfl⟩:=ln2 hl;rfl) | (obtain⟨_,_,_,rfl⟩:=ln3 hl;rfl) | (obtain⟨_,_,_,_,rfl⟩:=ln4 hl;rfl) | (obtain⟨_,_,_,_,_,rfl⟩:=ln5 hl;rfl))):zc1 P w K mg base k x ps sp:=by
 obtain⟨f,fd,n,F⟩:=a;exact⟨f,fd,mg_of X G n,F.kp,F.binds bd,ok f fd F⟩
end
end L2
section
open L2
local macro_rules
 | `(tactic| simp?! [$ls,*])=>do
   let x:=("wp_ok wp_bad wp_some wp_none wp_sNil wp_sSet wp_sSetB wp_sAsg wp_sPar wp_sIf wp_sRet wp_sRetV wp_sMt wp_sBad wp_sAug wp_fC wp_fVk wp_f2 wp_fA wp_aNil wp_aCons wp_fCall wp_fCallS wp_fAndV wp_fOrV wp_fNotV wp_fIfE wp_fNeg wp_fCut wp_pNo wp_pSo wp_iSeq wp_iArgs wp_fComp wp_fB wp_fAnd wp_fOr wp_fNot wp_fTrue wp_sPar3 wp_sItem wp_sDPut wp_fChain wp_fDisp wp_sTab2 wp_fGet wp_sFor wp_fP wp_aP wp_tP own? frz frz1 pickR gN gT gsCons gsNil D.seq? D.immL flat_lst flat_dct flat_int flat_str flat_bl flat_non flat_tup imm_int imm_str imm_bl imm_non imm_tup rho0 rhoS rhoL g0 gS s0 sS lC lN rd putN put im kp vr cn o2 cs nl o1 ti tb boS dbb rl0_ rl1_ rl2_ rl3_ rl4_ rl5_ rl6_ rl7_ rl8_ rl9_".splitOn " ").toArray.map λn=>Lean.mkIdent n.toName
   `(tactic| try simp only[$[$x:term],*,EV_,Nat.reduceAdd,Nat.reduceLT,Nat.reduceLeDiff,Nat.reduceSub,reduceIte,$ls,*])
local macro_rules
 | `(tactic| simp_all!)=>do
   let a:=Lean.mkIdent `hN_
   `(tactic| ((try with_reducible refine $a _ _ ?_);with_reducible refine wh1 fun $(Lean.mkIdent `P_) $a $(Lean.mkIdent `hR_) $(Lean.mkIdent `hB_) $(Lean.mkIdent `hC_)=>?_))
 | `(tactic| simp!)=>`(tactic| simp! [wp_ok])
 | `(tactic| simp! [$ls,*])=>do
   let a:=Lean.mkIdent `hN_
   `(tactic| ((try with_reducible refine $a _ _ ?_);simp?! [$ls,*];(repeat (first | with_reducible refine $a _ _ ?_ | with_reducible refine $(Lean.mkIdent `hR_) _ _ ?_ | with_reducible refine $(Lean.mkIdent `hB_) _ _ ?_ | with_reducible refine $(Lean.mkIdent `hC_) _ _ ?_));simp?! [$ls,*]))
namespace K15
open L2
def top(i:Nat):Stmt:=PySem.Challenge.pw_slidehall_k15_rows_taken_back.main.body.getD i (.Pass ⟨0,0,0,0⟩)
structure Cst(K:PySem.W.Frag)(mg:Str->Option Value):Prop where
 ok:True
 WALL:∃t,mg "WALL" = some (.int (-1) t)
 STRONG:∃t,mg "STRONG" = some (.int (1) t)
 DULL:∃t,mg "DULL" = some (.int (-1) t)
 STEPS:∃a0,mg "STEPS" = some (.ref a0)/\vy8 K a0 [(1,0),(0,1),(-1,0),(0,-1)]
abbrev yd4:Stmt:=top 30
abbrev yv7:List Str:=["_law_script","_law_cells"]
def zr7:zc0 yv7 ["_law_script"] (za2 yd4):=by and_intros
abbrev yh3:Stmt:=top 31
abbrev xb1:List Str:=["_law_state","_law_many","_law_turn","_law_place","_law_cell","_law_digit","_law_mixed"]
def zg6:zc0 xb1 ["_law_state","_law_many"] (za2 yh3):=by and_intros
section
variable{P:Program}{w:World}{K:PySem.W.Frag}{mg:Str->Option Value}{base:Heap}
def wa4(F:Fun K "_law_begin" "_law_begin" yd4 f fd)(hm:Bn mg):wy0 P w K mg base CX0 1 f fd ["_law_script"] (yz8 K):=by
 refine F.ok zr7 (λvs H Q E h=>?_) (λcdv A outer s H vs Q E hr h=>?_)
 ·obtain⟨a,ns,rfl,_⟩:=h;rfl
 ·obtain⟨a,ns,rfl,hS,h63,q⟩:=h
  have hcut:vh5 (ns.map V.int) none (some 63)=ns.map V.int:=vy4 h63;refine⟨_,zg4 (zl6 (i:=1) zr7.nd rfl (Or.inl rfl) (yu8 zp4 (by rfl) hm.list boot_list (zb8 (xf1 xo9 (pv 0) xq4 (xq3 zh3)) zf4))) (zg4 (vc5 (xa3 (zf1 hr) (pv 1) (xr1 zf4) (we7 _)) (zp6 (zl6 (i:=1) zr7.nd rfl (Or.inl rfl) (xr1 (zb8 zh3 zf4)))) zx8) (zp6 (zz4 (xr3 (yq0 zo9 (pv 1) (yq0 zo9 zh3 xq1)) rfl rfl (by simp) (by show 2<=15;decide))))),?_⟩;refine⟨.ref a,rfl,63,rfl,a,_,rfl,hS,λp1 hp1=>?_⟩;rw[hcut];refine⟨p1,_,rfl,.inl (.of zb3),λp2 hp2=>?_⟩;have n12:p1≠p2:=zb1 zb3 hp2;have s2:wx4 H (upd (upd H p1 (.lst (ns.map V.int))) p2 (.lst (ns.map V.int))):=λb o e=>by
   have b1:b≠p1:=zb1 e hp1;have b2:b≠p2:=λz=>by subst z;rw[za9 b1,e] at hp2;cases hp2
   rw[za9 b2,za9 b1];exact e
  refine⟨_,rfl,(by show 0<=sizeLine;decide),λp3 hp3=>?_⟩;have n23:p2≠p3:=zb1 zb3 hp3;refine⟨λ_=>True,.lst (ns.map D.int),.lst [],ns.isEmpty,?_,?_,?_,?_,?_⟩
  ·exact Is.lst trivial (by rw[za9 n23];exact zb3) (xt8 ns)
  ·exact Is.lst trivial zb3 (IsL.nil.mpr rfl)
  ·exact wb4 ns
  ·cases ns<;>rfl
  have fin:∀(H3:Hp) (q2:Addr) (xs:List Int),wx4 H H3->H q2=none->H3 q2=some (.lst (xs.map V.int))->xs=zs7 ns->
   vn5 [(λ_ H Q=>Q (.str "cells") H,vb2 1),(λ_ H Q=>Q (.str "turn") H,λ_ H Q=>Q (.int 0) H)] [some (.ref a),some (.ref q2)] H3 Q:=λH3 q2 xs sm hn hl ex=>by
   intro r hr';have nr:q2≠r:=zb1 hl hr';refine⟨_,rfl,zb3,[(Sum.inr "cells",.ref q2),(Sum.inr "turn",.int 0)],rfl,(by show 2<=15;decide),?_⟩;refine q r q2 _ (λb o e=>?_) ?_ ?_ ?_ ?_
   ·have br:b≠r:=zb1 (sm b o e) hr'
    rw[za9 br,za9 br];exact sm b o e
   ·cases z:H r with
    | none=>rfl
    | some o=>rw[sm r o z] at hr';cases hr'
   ·exact hn
   ·rw[zb3];exact congrArg (λz=>some (HO.dK z)) wr2
   ·rw[za9 nr,za9 nr,hl,ex]
  have g2:H p2=none:=by
   cases z:H p2 with
   | none=>rfl
   | some o=>
     have b1:p2≠p1:=n12.symm;rw[za9 b1,z] at hp2;cases hp2
  cases ns with
  | nil=>
    refine⟨_,rfl,vn1 ?_⟩;refine⟨(by show 1<=sizeLine;decide),λp4 hp4=>?_⟩;have s3:wx4 H (upd (upd (upd (upd H p1 (.lst [])) p2 (.lst [])) p3 (.lst [])) p4 (.lst [.int 7])):=λb o e=>by
     have z2:=s2 b o e;have b3:b≠p3:=zb1 z2 hp3;have b4:b≠p4:=λz=>by subst z;rw[za9 b3,z2] at hp4;cases hp4
     rw[za9 b4,za9 b3];exact z2
    refine fin _ p4 [7] s3 ?_ zb3 rfl;cases z:H p4 with
    | none=>rfl
    | some o=>
      have z2:=s2 p4 o z;have b3:p4≠p3:=zb1 z2 hp3;rw[za9 b3,z2] at hp4;cases hp4
  | cons n0 ns=>
    refine⟨_,rfl,vo7 ?_⟩;have s3:wx4 H (upd (upd (upd H p1 (.lst ((n0::ns).map V.int))) p2 (.lst ((n0::ns).map V.int))) p3 (.lst [])):=λb o e=>by
     have z2:=s2 b o e;have b3:b≠p3:=zb1 z2 hp3;rw[za9 b3];exact z2
    exact fin _ p2 (n0::ns) s3 g2 (by rw[za9 n23];exact zb3) rfl
open H in
def wj5(F:Fun K "_law_take" "_law_take" yh3 f fd)(hlen:mg "len" = none)(hdm:mg "divmod" = none):wy0 P w K mg base CX0 1 f fd ["_law_state","_law_many"] (spS (WdS p l) K wx8):=by
 refine F.ok zg6 (λvs H Q E h=>?_) (λcdv A outer s H vs Q E hr h=>?_)
 ·obtain⟨ds,us,st,rfl,i,ok,w⟩:=h
  unfold wx8 at w;split at w
  ·rw[Au0,<-i.length];rfl
  ·exact w.elim
 ·obtain⟨ds,us,st,rfl,i,ok,w⟩:=h
  unfold wx8 at w;split at w
  ·rename_i many
   split at w
   ·rename_i hb
    obtain⟨v,r,ev,i1,i2⟩:=IsL.cons.mp i;rw[IsL.nil.mp i2,Is.int_iff.mp i1] at ev;subst ev;have hu:=vc8 hr;obtain⟨hp,hl,hne,h63,h0⟩:=id ok;have npl:p≠l:=vh1 hp hl (by intro z;cases z);refine⟨_,zg4 (zl6 (i:=2) zg6.nd rfl (Or.inl rfl) (wx6 yv1 (yh6 hu (pv 0) zo9 (λ_ _=>rfl)) zh3)) (zg4 (xq0 hu (pv 0) zo9 (pv 2) rfl) (zg4 (zl6 (i:=3) zg6.nd rfl (Or.inl rfl) (wx6 zu3 (pv 2) (zs1 zc6 (by rfl) hlen PySem.boot_len (zb8 (yh6 hu (pv 0) zo9 (λ_ _=>rfl)) zf4)))) (zg4 (zl6 (i:=4) zg6.nd rfl (Or.inl rfl) (vg4 xt5 (yh6 hu (pv 0) zo9 (λ_ _=>rfl)) (pv 3) (λ_ _=>rfl))) (zg4 (vc5 (xa3 vv3 (pv 4) (wx6 we6 zh3 zh3) (we7 _)) (zg4 (ym2 (zs1 xc4 (by rfl) hdm boot_divmod (zb8 (pv 4) (zb8 (pv 1) zf4))) (xr0 (n:=2) rfl (zz6 (xf0 (yh6 hu (pv 0) zo9 (λ_ _=>rfl)) (pv 3) ye6) (zz6 (yq1 (i:=5) zg6.nd rfl (Or.inl rfl)) xa5)))) (zp6 (zz4 (pv 5)))) zx8) (zg4 (zl6 (i:=6) zg6.nd rfl (Or.inl rfl) (wx6 zu3 (wx6 yh9 (wx6 yv1 (wx6 yv1 (wx6 zu3 (pv 4) zh3) (wx6 yh9 (wx6 yh9 (pv 2) (pv 2)) zh3)) zh3) zh3) zh3)) (zg4 (zl6 (i:=6) zg6.nd rfl (Or.inl rfl) (wx6 zu3 (wx6 yh9 (pv 6) (pv 6)) zh3)) (zp6 (zz4 (wx6 zu3 (wx6 wj2 (wx6 zu3 (wx6 yh9 (wx6 yv1 (pv 6) (wx6 yh9 (pv 2) zh3)) zh3) zh3) zh3) (pv 1)))))))))),?_⟩;have n0:(0:Int)<(st.1.length:Int):=by
     have:st.1.length≠0:=λz=>hne (List.length_eq_zero_iff.mp z)
     omega
    have pl0:0<=(st.2+1) % (st.1.length:Int):=Int.emod_nonneg _ (by omega);have pl1:(st.2+1) % (st.1.length:Int)<(st.1.length:Int):=Int.emod_lt_of_pos _ n0;have ple:((plc st:Nat):Int)=(st.2+1) % (st.1.length:Int):=Int.toNat_of_nonneg pl0;have plt:plc st<st.1.length:=by omega
    have cel:(st.1.map V.int)[plc st]?=some (.int (st.1.getD (plc st) 0)):=by
     rw[Ag0,Ad0 plt,Bl0,Ad0 plt];rfl
    have H1p:∀o,(upd H p o) l=some (.lst (st.1.map V.int)):=λo=>by rw[za9 npl.symm];exact hl
    have g0:vb1 H p (.str "turn") (some (.int st.2)):=by
     have q:=vb1.k (k:=(Sum.inr "turn" : Key)) hp;rw[xo8] at q;exact q
    have p0:vj5 H p (.str "turn") (.int (st.2+1)) (upd H p (.dK (stD l (st.2+1)))):=by
     have q:=vj5.k (k:=(Sum.inr "turn" : Key)) (v:=.int (st.2+1)) hp (by show 2<sizeLine;decide);rw[wo2] at q;exact q
    have gc:∀{H2:Hp},H2 p=some (.dK (stD l (st.2+1)))->vb1 H2 p (.str "cells") (some (.ref l)):=λ{H2} e=>by
     have q:=vb1.k (k:=(Sum.inr "cells" : Key)) e;rw[xy8] at q;exact q
    have lenI:(((st.1.map V.int).length:Nat):Int)=(st.1.length:Int):=by rw[Aa0]
    -- turn,its store,the place
    refine⟨_,rfl,p,.int st.2,rfl,g0,st.2,1,rfl,rfl,_,rfl,_,rfl,p,_,rfl,p0,?_⟩;refine⟨_,rfl,_,rfl,p,.ref l,rfl,gc zb3,l,_,rfl,.inl (SqL.of (H1p _)),st.2+1,_,rfl,rfl,by rw[lenI];exact n0,?_⟩
    -- the cell
    refine⟨_,rfl,p,.ref l,rfl,gc zb3,_,rfl,l,_,_,.int (st.1.getD (plc st) 0),rfl,rfl,SqL.of (H1p _),by rw[lenI,<-ple];exact xc5 cel,?_⟩;refine⟨_,rfl,10,18,rfl,rfl,⟨by decide,by decide,by decide⟩,st.1.getD (plc st) 0,_,rfl,rfl,_,rfl,?_⟩;have e18:((10:Int) ^ (18:Int).toNat)=1000000000000000000:=by decide
    by_cases hc:1000000000000000000<=st.1.getD (plc st) 0
    ·rw[if_pos hc] at w
     rw[e18,Aj1 hc];refine vn1 ?_;refine⟨_,rfl,_,rfl,st.1.getD (plc st) 0,many,rfl,⟨hb.1,hb.2.1⟩,λq hq=>?_⟩;have qp:p≠q:=zb1 zb3 hq;have ql:l≠q:=zb1 (H1p _) hq;refine⟨q,_,rfl,SqT.of zb3,rfl,_,_,rfl,_,rfl,p,.ref l,rfl,gc (by rw[za9 qp];exact zb3),_,rfl,l,_,_,plc st,rfl,rfl,by rw[za9 ql];exact H1p _,?_,_,_,rfl,rfl,?_⟩
     ·rw[lenI,<-ple]
      unfold ixN;rw[if_pos (by omega),if_pos (by rw[Aa0];omega)];simp
     ·refine⟨_,rfl,w _ _ (λb o hb' nm=>?_) ⟨?_,?_,?_,?_,?_⟩ (Is.int_iff.mpr rfl)⟩
      ·have b1:b≠p:=λz=>nm (.inl z)
       have b2:b≠l:=λz=>nm (.inr z)
       have b3:b≠q:=λz=>by
        subst z;rw[za9 b1,hb'] at hq;cases hq
       rw[za9 b2,za9 b3,za9 b1];exact hb'
      ·rw[za9 npl,za9 qp];exact zb3
      ·rw[zb3]
       congr 2;rw[List.map_set]
      ·intro z
       have:=congrArg List.length z;rw[Bu0] at this;exact hne (List.length_eq_zero_iff.mp this)
      ·show (st.1.set _ _).length<=63
       rw[Bu0];exact h63
      ·show 0<=st.2+1
       omega
    ·rw[if_neg hc] at w
     rw[e18,Ai1 hc];refine vo7 ?_;have tb:-(2 ^ 64)<st.2+1/\st.2+1<2 ^ 64:=⟨by omega,by omega⟩;have big:∀(j:Int),-(2 ^ 64)<j/\j<2 ^ 64->∀i:Int,vd7 i j:=λj h i=>.inr h
     refine⟨_,rfl,st.1.getD (plc st) 0,2147483629,rfl,rfl,(by show (0:Int)<2147483629;decide),_,rfl,_,rfl,_,_,rfl,rfl,.inl tb,_,_,rfl,rfl,big _ ⟨by decide,by decide⟩ _,_,_,rfl,rfl,_,_,rfl,rfl,_,_,rfl,rfl,big _ ⟨by decide,by decide⟩ _,_,_,rfl,rfl,(by show (0:Int)<2147483647;decide),?_⟩;have m0:0<=vn0 (st.1.getD (plc st) 0) (st.2+1):=Int.emod_nonneg _ (by decide);have m1:vn0 (st.1.getD (plc st) 0) (st.2+1)<2147483647:=Int.emod_lt_of_pos _ (by decide);refine⟨_,rfl,_,rfl,vn0 (st.1.getD (plc st) 0) (st.2+1),vn0 (st.1.getD (plc st) 0) (st.2+1),rfl,rfl,.inl ⟨by omega,by omega⟩,_,_,rfl,rfl,(by show (0:Int)<2147483587;decide),?_⟩;refine⟨_,rfl,_,rfl,st.2+1,104729,rfl,rfl,big _ ⟨by decide,by decide⟩ _,ua4 (st.1.getD (plc st) 0) (st.2+1),_,rfl,rfl,_,39373,rfl,rfl,big _ ⟨by decide,by decide⟩ _,_,2147483629,rfl,rfl,(by show (0:Int)<2147483629;decide),_,64,rfl,rfl,⟨by decide,by decide⟩,_,rfl,ua3 (st.1.getD (plc st) 0) (st.2+1),many,rfl,rfl,hb.1,?_⟩;refine w _ _ (λb o hb' nm=>?_) ⟨zb3,H1p _,hne,h63,by show 0<=st.2+1;omega⟩ (Is.int_iff.mpr rfl);rw[za9 (λz=>nm (.inl z))];exact hb'
   ·exact w.elim
  ·exact w.elim
end
set_option hygiene false
open Lean in
def mT:="A0rfl #3 #1 #4 #2 #6 A0za3 #7 =20% #5 A0za1 #0 #8 =20. ? =ȷ0J =ȸ0Œ =20$ X A0hr @2.nd Q00 =T05 =a0C =ɲ1Ǡ [1 =U1- #9 A1gU_ =20' =Ï0Á =20& =Ǳ1k [4 =t0. =ɀ0Œ !i =Ï0ǹ =20/ A1pv =V1ĵ A2vc2 [3 =ł0Z #12 =90Ŀ [0 A0none A1some =ȿ01 =ȼ02 =f1P A0hm.tuple A0boot_tuple =J0$ =×0- =ʜ17 - =Ȼ01 =ç1- =m1- =Ƿ0ù =]1] A1gL_ A1zq8 =Ā1ǽ =î1) =Ɨ2ɕ =t0' =ɜ0J =Ǿ0J =ì12 =Ƚ0# @5 A2wy5 [2 =è0h A2ve7 =U1= =Ñ2= #10 =ì1) =ɭ0# =20( =ƕ0Ä A0ze2 =u1) =20* =ƅ0ʣ =ɗ0ǳ =Ǉ1- A0hm.list =f19 @3 =ì10 =ʓ0# =ɛ06 #11 =ǚ1ǉ =Ť1ř =ʰ06 =a2P =]1P =Ƀ0# =m1= =20, =p1- =ə16 =ʮ0# =U1U =Ì0j =]19 =Ĥ0= A0boot_list ==0, =ƀ0) =G0, =ę0( =ł0} R1 =ʭ03 A0hm.int A0boot_int #13 =ʦ0ĭ =n0Ă =20> .tuple =ɖ0# =ſ0ʞ =Ȁ0ʼ A2vf0 =ɷ0# =ǩ0ʵ =t0, =ú1- =Ë02 =:0/ =Ƿ0Ä =ƅ0ǃ =ʸ1ũ =Ǳ1ǻ =Ǯ15 A0vc0 =ʻ1ĥ =ʗ0# =ʱ0ʲ =ǰ1k =ɨ3# =ʌ06 =:1b =Ĵ0. A0zo0 A;yx4 =ʾ0ʿ =ž0ž A2ze5 A1yo4 '_law_cell =Ǵ1% A0zv6 A0yy2 =Ĕ0õ =Ǵ1. #14 =ƨ0j =V1Ņ =Ŵ0ŏ =ŏ30 '_law_one '_law_other =˙03 =b0- =õ0ƥ =Ũ5J =ġ5ü =ħ0Q =˚1# =ˊ0& =î1x Q21 !j =Ɂ0# =Ŏ0ŋ =ě0Ï @6 =T0À =|1Ɯ =˂0ǎ =Ǒ3ĳ =ǖ0S A1yr5 =Ƕ0ø A0zf2 =ʟ0# =Ç2ť =å1Ǻ =h0' =ƛ1ƛ =ƛ1Ɲ =ː0. =ʝ1- =ǧ1% =ǳ1ä =<0' =˞0# =Ǿ0Y =Ɠ0ʋ =ǵ1ɡ A0zg2 =G0$ =ˎ0ȃ A2yg0 =c0ˑ =×0Z =ɚ3# =ˉ2N =ˈ0ȃ =ˆ0ˇ A1zc9 =Ł0Ł =ʘ0) =ć0Á =˟0? =ˋ2< A0zx7 =:2C =ğ2) =ʇ0# A2zc2 A2vi0 =ɞ0ƚ =Ǽ20 =ċ3+ A1zv3 =ʈ0ʉ =ɬ03 =ˌ0ǹ .R A0yi7 A0yi9 A0PySem.F.slot_list_extend A0PySem.F.type_list_extend A6xc1 A1yh7 A0PassesOwn.never =ƙ0= A0zp4 A1xc3 A6yc8 Q12 A2ym2 A0hv A3xf0 A0hk A0ye6 =ɧ2# =ǵ17 A7yr7 A0xa6 =ʚ0G A0zj1 A0zn8 A0PySem.F.slot_list_append A0PySem.F.type_list_append !N' 'number 'push 'hall 'stands !ixs =ɮ0ɯ =ʛ0ŋ =×0× =ʫ0# =ʪ0ǿ A0hm.min A0boot_min A@xc0 !k A2vw9 =ʧ2Ɲ =ƀ0x =a05 A2ww0 A0hm.dict A0boot_dict =ǈ0ň #15 A1DW.dt A1g2_ A1ys2 A0hm.any A0boot_any A1xr9 =ʐ0ŭ '_law_x '_law_y '_law_wide '_law_high A1ys3 A0hm.all A0boot_all =ɿ0ʀ .list =Ǽ1ä =L1ǀ =ɐ01 A7xu9 =Ƕ0Ļ =ɝ0Œ =ŉ0ť A0wy7 A0zi3 =Ɔ0Ǹ 'j 'x 'i 'y A0cs.WALL A0hm.enumerate =_0E Q03 =ˀ0Œ =Ë1) A3xi6 'other 'going A0yk8 A1yy1 A0hm.sorted A0boot_sorted A5xu7 A0PassesOwn.leaving A0hR A0h2 A0hC 'n 'behind 'stand A<xu6 '_law_j '_law_i '_law_place Q04 =ÿ0ÿ '_law_state '_law_broad =Ŋ0Ã @7 A2yk1 =ǂ1ʯ A0vg7 '_law_taken #16 A2ve9 A2ve8 A1yk2 =ŉ1ŉ '_law_shuts '_law_ahead A0vo3 A0ym5 A0ym6 .dict =Ƌ5û '_law_name '_law_found '_law_due_here A0zs3 =n0R .str A0hm.str A0boot_str =ʠ03 A2ub0 A0we9 A0wf1 A0PySem.F.slot_list_insert A0PySem.F.type_list_insert A0zc6 =ɩ0# A0hm.len A0PySem.boot_len =ȁ0- =ƃ1N '_law_k =ʴ0R A2ua9 =ʨ1ʩ A5wf8 A0xv1 A2xv0 '_law_kind_here R2 =Ɇ0G =ɉ0G =50ǰ =Ʉ15 =Ɍ03 =ɓ16 =ǯ2k A1gA_ =|1ä =ɠ03 @4 =ɵ0ɶ =ʊ0# =Ɔ0Ő =Ā1ʑ =90ʔ Q05 =Ǻ0' =ǥ0) A0vb3 A0yd7 A0wc6 A4wl5 A?wl3 !tbl !a0 A0cs.STEPS A8wu0 Q46 A0cs.DULL A0cs.STRONG A6wt2 A0ws3 A:xu8 !E A0E A2xm3 !cp Q07 AKwl2 !ia !inn !im A0hL A0hA A0xm2 A1wq5 A1wq9 A7xm9 A0hm.reversed A;wl7 A0wl4 Q08 A2yk9 A1ws5 A0wl8 A5wu1 A3vx9 A3wt3 A0hm.zip .int A2wt7 .bool A0hm.bool A0boot_bool A2ue9 A0wa9 A0wk1 A0PySem.F.slot_list_pop A0PySem.F.type_list_pop A2vx8 A0we6 A1za0 !ga A2za5 =Ǯ0ȹ =Ⱥ11 A2wv0 A1Or.inl A1za7 =Û0Ⱦ !gb Q19 A4gX_ =ɂ3Ě R3 A4zb2 =Ʌ2# A5zc5 =ɇ2# =Ɉ17 A7zd1 =Ɋ6# =ɋ1F A3wv7 =ǲ0ɍ =Ɏ21 =ɏ11 A5zb7 =ɑ3J =ɒ2# A0zc4 =50ɔ A1zd4 A1gT_ A4zd0 =ɘ2# A6ww8 A1zf1 A1ze7 !g A2zi0 A6wx5 =ɟ1F Q1: =ǲ25 A6zj8 =ɢ0ɣ =ɤ51 =ɥ41 =ɦ31 A6wy1 A1zl8 A7zl7 =ɪ6# =ɫ1F A3gP_ Q1; Q3< =Ś4ǣ =ɰ3Ǣ =ɱ2ǡ A4zo2 =ɳ2# =ɴ1# !n A2zo1 A3zj9.scope =ɸ2Ƽ !osc =ɹ1ɺ A1za2 =ɻ1ɼ @0 =ɽ1ɾ !N A9ze6 =ʁ73 =ʂ4# A0hm.isinstance =ʃ3ʄ =ʅ2# A3gp_ A1gI_ =ʆ1# A1Or.inr @1 A1zq5 A7zk4 =ʍ6ų =ʎ4# =ʏ1Ų A0zq9 A4gY_ =ʒ3Ě A1zl5 A3zg1 A0hm.range =ʕ1ʖ A2vi1 A8va6 =ʙ7# A1gB_ =ǯ2ǻ A2vj1 A2ye3 A1zp3 A3yk3 A2vc9 A1yk0 =ʡ1ʢ A1zx1 =Ļ2ʤ =ʥ2ǿ =Ȁ0Ī =ƞ3) A0vk8 A1zx0 A1zr0 A2yo3 =ʬ1) A1ym7 A1yc7 A1vc8 Q1= A0h =M2S =ʳ1S A0zu3 =Ē4Ŭ =ʶ3ū =ʷ2Ū =Ô4X =ʹ3W =ʺ2Ħ =Ǌ2Ɲ A0yi0 =ƞ1ʽ A0yh8 !gc =|3ĵ =ˁ1Ǐ =ƙ4Ź =˃3Ÿ =˄2ŷ =˅1Ŷ =U1Z =Ǹ1Ȃ =Ɩ3- =Ž1, =ē3o =ă1Z =y0ƞ =ˍ1Ȃ =r2' =ˏ1% =ȁ0Ǥ A:yg3 =˒7) =˓6Ɯ =˔5Ɯ =˕4ó =˖3Ǆ =˗2Ƨ =˘1F A2yg2 A3yg1 =ǽ0ĩ =˛2˜ =˝1Ƥ A2vo8".splitOn " "|>.map String.toList|>.toArray
open Lean in
def mQ(a:Nat->Term):Nat->MacroM Term
  |0=>`(by decide)
  |1=>`(($(a 0), $(a 1)))
  |2=>`(λhk hv=> $(a 0))
  |3=>`(-1)
  |4=>`(by decide +kernel)
  |5=>`(_)
  |6=>`(⟨ $(a 0), $(a 1), $(a 2), $(a 3)⟩)
  |7=>`(λc=>c = .none)
  |8=>`(by simp)
  |9=>`(λ_ _=> $(a 0))
  |10=>`(show (($(a 0)):List Str).Nodup by decide +kernel)
  |11=>`(λav cl C s H fp=> $(a 0))
  |12=>`(⟨ $(a 0), $(a 1), $(a 2)⟩)
  |_=>`(λ_ _ _ h=> $(a 0))
open Lean in
def mA(I:Array Syntax):Nat->Char->List Syntax->Nat->MacroM (List Syntax×Nat)
  |0,_,s,n=>pure (s,n)
  |f+1,c,s,n=>do
   let c:=c.toNat
   let p (k:Nat)(t:Syntax):MacroM (List Syntax×Nat):=pure (t::s.drop k,n)
   let a (k:Nat):Term:=⟨s[k]!⟩
   let N (x:List Char):=mkIdent (String.ofList x).toName
   match mT[if c<127 then c-35 else c-100]! with
   |['=',a,i,b]=>do
    let i:=i.toNat-48
    let (r,n)←mA I f b (s.drop i) n
    mA I f a (s.take i++r) n
   |'A'::k::x=>
    let k:=k.toNat-48
    p k (Syntax.mkApp (N x) ((s.take k).map TSyntax.mk).toArray)
   |'.'::x=>p 0 (mkNode ``Parser.Term.dotIdent #[mkAtom ".",N x])
   |'@'::k::x=>p 0 (mkIdent (I[k.toNat-48]!.getId++(String.ofList (x.drop 1)).toName))
   |'#'::x=>p 0 (Syntax.mkNumLit (String.ofList x))
   |'\''::x=>p 0 (Syntax.mkStrLit (String.ofList x))
   |'!'::x=>p 1 (mkNode ``Parser.Term.namedArgument #[mkAtom "(",N x,mkAtom ":=",s[0]!,mkAtom ")"])
   |['[',k]=>do
    let k:=k.toNat-48
    let x:TSyntaxArray `term:=((s.take k).map TSyntax.mk).toArray
    p k (←`([$x,*]))
   |'?'::_=>do
    let h:=mkIdent (Name.mkSimple s!"q{n}")
    return ((←`(?$h:ident)).raw::s,n+1)
   |'X'::_=>do p 1 (←`(tactic|exact $(a 0)))
   |['R',k]=>do
    let mut t←`(tactic|refine' $(a 0))
    let mut i:=1
    for x in s[0]!.topDown do
     if x.isOfKind ``Parser.Term.syntheticHole then
      let h:Ident:=⟨x[1]⟩
      let y:TSyntax `tactic:=⟨s[i]!⟩
      t←`(tactic|($t:tactic;case $h:ident=>$y:tactic))
      i:=i+1
    p i t
   |['Q',k,j]=>do p (k.toNat-48) (←mQ a (j.toNat-48))
   |_=>Macro.throwUnsupported
local macro_rules
 |`(tactic|exact $s:str $x*)=>do
  let mut r:List Lean.Syntax×Nat:=([],0)
  for c in s.getString.toList.reverse do
   r←mA x 99 c r.1 r.2
  return r.1[0]!
local macro_rules
 |`(command|example($m:ident $s:ident $n:ident $c:ident):$h:str:=$b:str)=>do
  let L(x:String):=do
   let y:=((x.splitOn " ").filter (·≠"")).map λz=>(Lean.Syntax.mkStrLit z:Lean.Term)
   let y:=y.toArray
   `([$y,*])
  let I(x:String):=Lean.mkIdent x.toName
  let w:=h.getString.splitOn "/"
  let c0:=w[0]!.front
  let d:=c0 != 'U'
  let k:=Lean.Syntax.mkNumLit (String.ofList (w[0]!.toList.drop 1))
  let x:=Lean.Syntax.mkStrLit w[1]!
  let u←if d then `(Dr) else `(Unit)
  let e←if c0=='U' then `(cx0 K H) else if c0=='D' then `(cxS (WdS p l) K H) else `(cxS (WdS p l) K (λ_=>none))
  let y←if c0=='L' then `((zb9 $s).drop 1) else `(zb9 $s)
  let mut t←`(∀f cdv A outer s H E,wv8 k (A.deeper (envOfC $x (za2 $s) s.heap.objs.size f cdv))->DSs (wx0 CX0 P w K mg base $n $x (za2 $s) f cdv A outer s H E).nox $e $y B)
  let mut G:Array Lean.Ident:=#[]
  let mut C:Array Lean.Ident:=#[]
  for z in w.drop 4 do
   C:=C.push (I s!"C{C.size}")
   G:=G.push (I s!"G{G.size}")
  for (z,i) in ((w.drop 4).zipIdx).reverse do
   let v:=z.splitOn " "
   let g:=G[i]!
   let y←if z.front=='D' then `(spS (WdS p l) K $g) else `(sp0 K $g)
   let q:=C[i]!
   t←`(∀($q:ident:zc1 P w K mg base k $(Lean.Syntax.mkStrLit (String.ofList (v[0]!.toList.drop 1))) $(←L (" ".intercalate (v.drop 1))) $y),$t)
  t←`(∀(hm:Bn mg) (cs:Cst K mg) k,$t)
  t←if d then `(∀P w K mg base (p l:Addr),$t) else `(∀P w K mg base,$t)
  let p:=if d then #[I "p",I "l"] else #[]
  return Lean.mkNullNode #[←`(command|abbrev $s:ident:Stmt:=top $k),←`(command|abbrev $n:ident:List Str:=$(←L (w[2]!++" "++w[3]!))),←`(command|def $c:ident:zc0 $n $(←L w[2]!) (za2 $s):=by and_intros),
   ←`(command|def $m:ident $[($G)]* :{B:FnS $u//$t}:=by
    refine⟨?B,?h⟩
    case h=>
     intro P w K mg base $p* hm cs k $C* f cdv A outer s H E hr
     exact $b $s $n $c $C*)]
set_option hygiene true
example(yp3 ye7 xf9 xp2):"U9/within/wide high cell/":="PÆďg0ďg+"
example(yk6 zt7 yi4 zq3):"U10/covered/kind place/x y cells i":="åh%æ['[$C&Đ]ÇQđ[,9Ē&œŔŕŖ&ēDƟƠơƢDRS'S,S$QđDƟƠơƢ?çu+@^u40i&"
example(yj8 zz2 yv5 zm9):"U11/holders/hall stand/held wall n kind cell/Ucovered kind place":=":'ȄĔèE$9ŗÈJ'3F4ĕƣ]ÇQȅ##ƤƥĖTĔèAU,_j%&(9ŗÈJ'3FvBi'"
example(xu1 xe5 we8 wi1):"U16/goes/ways direction/":="ÉVė0wé+)Vė0wé+)w0x"
example(yb9 zw4 yn1 yz9):"U17/opposite/direction/":="Péy0"
example(zs2 zm0 zz9 zx2):"U18/one_further/place direction/east north":="Ê5ȆȇDĘ%.Ę.%ĘƦ.Ę.ƦG'ę$Ȉ.##ȉ#7##kk+Ě?çuE@^uE4"
example(yq7 yf1 xg3 zt5):"U19/met_by/hall stand held n direction/kind met cell holder/Ugoes ways direction/Ucovered kind place/Uone_further place direction/Uwithin wide high cell":=":,ËE4KěAÌê&ë(ĔèHLÍÎÏlÌì%4&*íȊ3FƧÈ@z4ȋ####K{îIĕƣĜĝmEÌE*Ğï`I4|Ř6ÐIvð((Ii("
example(zp9 zh8 zp7 zf3):"U20/movers_among/hall stand held n direction/strong going asked met/Umet_by hall stand held n direction":=":,ƨËE4KîÍĕȌañ(b=$C*)ÊòƩř11ğóz;(íAÑ.%U'Ò(*&K{ĠIï`IĐ`ÍĕȍÓ5Ē(œŔŕŖ(ġnƪƫĢ(</o/nƪƫģ|Ř6Ð0+0ȎG*7#kȏ)Ĥ}Ś(Ƭƭ#ƮƯĥĦWX"
example(yq5 yf0 xg2 xp3):"U21/movers/hall stand n direction//Umovers_among hall stand held n direction/Uholders hall stand":="PAL0L+pHq.%q'$"
example(zs8 zm1 ya0 zp5):"U22/behind_step/stand going direction/places n/Uone_further place direction":=":$Ô.śŜ#~Õħ<%o%&9ŝY3FBAÒ.&'ŞşŠšYŢţPô$"
abbrev ye8:Stmt:=top 23
abbrev xg0:List Str:=["hall","stand","push","n","direction","many","behind","step","going"]
def zk7:zc0 xg0 ["hall","stand","push"] (za2 ye8):=by and_intros
def yf3(K6)(F9):{ B:FnS Unit // ∀P w K mg base (hm:Bn mg) (cs:Cst K mg) (C:Addr) (hC:mg "Barred" = some (.ref C)) (hR:vh7 K mg C) k (h2:2<=k) (J1:zc1 P w K mg base k "movers" ["hall","stand","n","direction"] (sp0 K K6)) (D4:zc1 P w K mg base k "behind_step" ["stand","going","direction"] (sp0 K F9)) f cdv A outer s H E,wv8 k (A.deeper (envOfC "pushed" (za2 ye8) s.heap.objs.size f cdv))->
 DSs (wx0 (CX3 P w) P w K mg base xg0 "pushed" (za2 ye8) f cdv A outer s H E) (cxB K H C E) (zb9 ye8) B }:=by
 refine⟨?B,λP w K mg base hm cs C hC hR k h2 J1 D4 f cdv A outer s H E hr=>?h⟩;case h=>exact"Ĩĩ$Ī$&ī,5ưG(7#kh%]ŤQƱõÖť*íAÑ.(q$&ÀĠIȐȑȒƲ6Ƴ##ƴ×=*ȓȔȕ#ö9÷(Hr(/&i(" ye8 xg0 zk7 J1 D4
abbrev zk9:Stmt:=top 24
abbrev zu8:List Str:=["hall","stand","push","behind"]
def zz0:zc0 zu8 ["hall","stand","push"] (za2 zk9):=by and_intros
def zp2(E9):{ B:FnS Unit // ∀P w K mg base (hm:Bn mg) (cs:Cst K mg) (C:Addr) (hC:mg "Barred" = some (.ref C)) (hR:vh7 K mg C) k (h2:2<=k) (D2:ys5 P w K mg base k C "pushed" ["hall","stand","push"] E9) f cdv A outer s H E,wv8 k (A.deeper (envOfC "gone_along" (za2 zk9) s.heap.objs.size f cdv))->
 DSs (wx0 (CX2 P w) P w K mg base zu8 "gone_along" (za2 zk9) f cdv A outer s H E) (cxB K H C E) (zb9 zk9) B }:=by
 refine⟨?B,λP w K mg base hm cs C hC hR k h2 D2 f cdv A outer s H E hr=>?h⟩;case h=>exact"Êñ$ŦÁ#6#ĬŧöøĭġMƵƶƷĮ$Qõ};%MƵƶƷģ`Â%Â'0ĥĦWX" zk9 zu8 zz0 D2
abbrev zz3:Stmt:=top 25
abbrev yv6:List Str:=["hall","stand","push","n","direction","many"]
def zw3:zc0 yv6 ["hall","stand","push"] (za2 zz3):=by and_intros
def yb2(G4)(J8):{ B:FnS Unit // ∀P w K mg base (hm:Bn mg) (cs:Cst K mg) (C:Addr) (hC:mg "Barred" = some (.ref C)) (hR:vh7 K mg C) k (h2:2<=k) (D7:ys5 P w K mg base k C "gone_along" ["hall","stand","push"] G4) (F6:zc1 P w K mg base k "opposite" ["direction"] (sp0 K J8)) f cdv A outer s H E,wv8 k (A.deeper (envOfC "back_of" (za2 zz3) s.heap.objs.size f cdv))->
 DSs (wx0 (CX2 P w) P w K mg base yv6 "back_of" (za2 zz3) f cdv A outer s H E) (cxB K H C E) (zb9 zz3) B }:=by
 refine⟨?B,λP w K mg base hm cs C hC hR k h2 D7 F6 f cdv A outer s H E hr=>?h⟩;case h=>exact"Ĩĩ$Ī$&ī,KįùŦÁ#6#Ĭŧö?=$PcL4pH=&Ö" zz3 yv6 zw3 D7 F6
abbrev ye9:Stmt:=top 27
abbrev xg1:List Str:=["hall","stand","pushes","stands","number","push","end","refusal"]
def zt4:zc0 xg1 ["hall","stand","pushes"] (za2 ye9):=by and_intros
def yf4(E9):{ B:FnS Unit // ∀P w K mg base (hm:Bn mg) (cs:Cst K mg) (C:Addr) (hC:mg "Barred" = some (.ref C)) (hR:vh7 K mg C) (hL:va3 K C) (hA:PySem.W.findIn K (.ref C) "step" = some none) k (h2:2<=k) (D2:xj5 P w K mg base k C "pushed" ["hall","stand","push"] E9) f cdv A outer s H E,wv8 k (A.deeper (envOfC "played" (za2 ye9) s.heap.objs.size f cdv))->
 DSs (wx0 (CX2 P w) P w K mg base xg1 "played" (za2 ye9) f cdv A outer s H E) (cxB K H C E) (zb9 ye9) B }:=by
 refine⟨?B,λP w K mg base hm cs C hC hR hL hA k h2 D2 f cdv A outer s H E hr=>?h⟩;case h=>exact"ú$=%ŤİƱıĖÓ5Ȗȗ(Ș*ș&Á#6Ƴ#U.Ò$&,###7######8#ƴƲȚțöȜŨ$ũŪūŬYvĲ" ye9 xg1 zt4 D2
abbrev zk8:Stmt:=top 28
abbrev zu7:List Str:=["hall","stand","pushes","stands","backs"]
def zr6:zc0 zu7 ["hall","stand","pushes"] (za2 zk8):=by and_intros
def zo5(K7)(K2):{ B:FnS Unit // ∀P w K mg base (hm:Bn mg) (cs:Cst K mg) (C:Addr) (hC:mg "Barred" = some (.ref C)) (hR:vh7 K mg C) k (h2:2<=k) (J2:ys5 P w K mg base k C "played" ["hall","stand","pushes"] K7) (G3:zc1 P w K mg base k "back_of" ["hall","stand","push"] (sp0 K K2)) f cdv A outer s H E,wv8 k (A.deeper (envOfC "taken_back" (za2 zk8) s.heap.objs.size f cdv))->
 DSs (wx0 (CX2 P w) P w K mg base zu7 "taken_back" (za2 zk8) f cdv A outer s H E) (cxB K H C E) (zb9 zk8) B }:=by
 refine⟨?B,λP w K mg base hm cs C hC hR k h2 J2 G3 f cdv A outer s H E hr=>?h⟩;case h=>exact"añ$ŦÁ#6#Ĭŧö5ƸG&ŭDŮůŰűŲDRRS.S$İĳ#7##ıųæûDŮůŰűĴ%DŮůŰűüHU'ÌÂ$%#ÊK|ȝ6Ȟ#ĵBȟ36#~#ȠB" zk8 zu7 zr6 J2 G3
example(zq1 zh9 zp8 zn3):"U32/_law_covered/_law_kind_here _law_place/_law_found _law_i":="ë'ÇQđ[$9Ē'œŔŕŖ'ēMƹƺƻĮ$QđMƹƺƻ?çug+^ug0i'"
example(zq0 zk5 zx4 zt6):"U33/_law_room_of/_law_wide _law_high _law_kind_here/_law_across _law_up":="Ê5ýĶę&#7##8##dķ0gķ+g#ȡ3Èĸþ4Bĸ4ĸBĸ)Ȣ##ȣ88ƼgĚ"
example(zv9 zo7 ye0 zz1):"D34/_law_sized/_law_state _law_broad/_law_way/D_law_take _law_state _law_many":="aVŴ+ĹC'NÉVe@ĹVe@ĹĹ"
example(zy6 zr9 yi5 ze0):"D35/_law_kind/_law_state _law_wide _law_high _law_broad/_law_sizes _law_across _law_up _law_ways _law_great/D_law_take _law_state _law_many":="ú&ŵŵĺ5ýØÙ#7##8##dĻļ+BŶŷŸŹĻļ@BŶŷŸŹ#:*Ãbƽÿ-NfŴ4:*Ãbƽÿ-NÀėzýØÙ#7##8##dĽ+N)#ĞėzýØÙ#7##8##d)Ľ@N#íNÀeIźØÙŻ*#7###888###Ā)dĽ@Úľ'x#aÀeIźØÙŻ*#7###888###ĀĽ+Úľ%d)x#ÀeIźØÙŻ*#7###888###Āľ%dľ'x#TÛĿ1Ûc1òL11ÍòL11v5ļzāŀŀŁżÜ-"
example(zy7 zi2 zn6 zc8):"D36/_law_hall/_law_state _law_broad _law_much/_law_wide _law_high _law_cells _law_shuts _law_taken _law_kinds _law_places _law_rooms _law_turn _law_kind_here _law_place _law_own _law_room _law_cell/D_law_sized _law_state _law_broad/U_law_covered _law_kind_here _law_place/D_law_take _law_state _law_many/D_law_kind _law_state _law_wide _law_high _law_broad/U_law_room_of _law_wide _law_high _law_kind_here":="åł=%Ž$&C,HŃÑ$&žZŃĺ-ſƸG(ŭMĂƾƿŲĮ.<,ĳ#7##o,ųûMĂƾƿģįÄăl_ËbĺÔ'ĄąÝÞ)0#ñ*øĭń<Ă<R((<Ă?U.ƀŅ-Ȥ#ȥ6ȦƁƂë/C>Đ:s)Ćǀāƃ)ćlZZÔ%ĄąÝÞ-ÅņOćĝr$&%ßcpćl^ķ4tOÎćl^ķBtOņĈHqOßƄÏǁr$&OTfƅǂŇó;/ǃğǄþ2s2Ƅ@ěàńáǅĢ*ĈĈáǅƆȧ3FÈ0+Ƈ#ƈƉ:sþ2s2Ƅ5ð//2O]5ð>>2ßTħ<ĈoĈǆ9ŗÈJ*3F2ǆŅP?ŃÑ$&Ǉô(}ô/}ô>"
example(zt1 zm5 ya4 yl3):"U37/_law_behind/_law_place _law_direction/":="TÛĿ1Ûc1òǈ11ňEÃāŀżÜZ+5ƃEÃāŀŁżÜ-+-"
example(zy8 zs0 yi6 yu0):"U38/_law_goes/_law_kind_here _law_direction/":="PȨ3wExǉwEËbÿ-é+"
example(zy4 zi1 zn5 zd6):"U39/_law_step/_law_hall_here _law_stand _law_n _law_direction/_law_wide _law_high _law_shuts _law_kinds _law_going _law_at _law_one _law_ahead _law_other _law_own/U_law_covered _law_kind_here _law_place/U_law_behind _law_place _law_direction/U_law_goes _law_kind_here _law_direction":="Ĩh.&Ǌ[&[,ŉ[(ī*KŇóĉ*'ú/='C>)ÉòƩř11ğóâ;/:sj/>ñÅAŊj*sÎHÒ%s$aK{ĜlÒ*s$ŋàńáǋĢ(ÅÅáǋŌƊ6Ð+Ƈ#ƈƉKěàƋDƌƍƎƏDRRS&S,<ÅĳoÅæûDƌƍƎƏĴ%DƌƍƎƏüÆď0@ď+4Ɛ#ƑƒÓĆ};*O]CßAmj*O_j%OĞï|Ř6Ð2OIŋàńáǌĢÅßßáǌŌƊ6Ð+Ƈ#ƈƉð//2O÷>yâKïŇǍ;/eĉ*'Ś/Ƭƭ#ƮƯ"
example(zt0 zm4 ya3 zd9):"U40/_law_pushed/_law_hall_here _law_stand _law_push/_law_n _law_direction _law_many _law_turn _law_going _law_places _law_k/U_law_step _law_hall_here _law_stand _law_n _law_direction/U_law_behind _law_place _law_direction":="Ĩĩ$Ī$&ī,ĆÖ(:*AÑ.%q$&fĠzi(íÔ%śŜ#~Õħ<*o*>9ŝJ/3FâHÒ/>&ŞşŠšJ/Ţţ9÷%ô/i%"
abbrev zk2:Stmt:=top 41
abbrev zs3:List Str:=["_law_found","_law_due_here"]
def yt9:zc0 zs3 ["_law_found","_law_due_here"] (za2 zk2):=by and_intros
def zy5(B3):{ B:FnS Unit // ∀P w K mg base (hm:Bn mg) (cs:Cst K mg) k (A7:zc1 P w K mg base k "_law_same" ["_law_found","_law_due_here"] (sp0 K B3)) f cdv A outer s H E,wv8 k (A.deeper (envOfC "_law_same" (za2 zk2) s.heap.objs.size f cdv))->
 DSs (wx0 CX0 P w K mg base zs3 "_law_same" (za2 zk2) f cdv A outer s H E).nox (cx0 K H) (zb9 zk2) B }:=by
 refine⟨?B,λP w K mg base hm cs k A7 f cdv A outer s H E hr=>?h⟩;case h=>exact"aVĠ+ŌǎǏĵfōǐƁƂÊĊ{ŎċǐƁƂ0`;.;%àǑMǒǓǔĮ.<%ƓǕo%MǒǓǔüÆŌƊ6Ð+AmÂ%_Â'Ɛ#ƑƒÉf{ōƔ~ÕōãWXÉĊ`ČƔ~ÕŏƔ~Õ+Ċ{`ČãWXŏãWX+`;.;%àƋnčĎǖRn.%ƓǕȩ#Ȫdh.h%æûnčĎĴ%nčĎüAq.%Ɛ#ƑƒVōǗǘǙÆČǗǘǙw0+ǚČȫÝÞÆȬ3ČȭȮȯw0+" zk2 k zk2 A7
abbrev zr8:Stmt:=top 42
abbrev zy0:List Str:=["_law_hall_here","_law_stand","_law_pushes","_law_call","_law_caught","_law_found","error"]
def zo6:zc0 zy0 ["_law_hall_here","_law_stand","_law_pushes","_law_call"] (za2 zr8):=by and_intros
example(yc9 zw5 yn2 zf7):"D43/_law_row/_law_state _law_hall_here _law_stand _law_many/_law_pushes _law_turn _law_n _law_direction _law_push _law_behind_here/D_law_take _law_state _law_many/U_law_pushed _law_hall_here _law_stand _law_push":="ë&Ć^þ4ĤǛƕù@?--ĄąÝÞ,ſýG(ę*#7##8##dÚ;'N#C/cLvļzbŵĺ:>Hr%'/fïŎċãWXâŇǍâÓC/?mt/Ìt/>÷>Hr%'/TfċãWXâÓ5ð&&IưG'7#kh>i&"
example(zm8 zm2 ya1 zh6):"U44/_law_stands/_law_hall_here _law_stand _law_pushes/_law_found _law_number _law_push _law_behind_here/U_law_pushed _law_hall_here _law_stand _law_push":="ú$=%ÇİıĖ:(AƖ04ÜÖVŎċãWXv?q&(9Ũ$ũŪūŬYvĲ"
example(zs9 zm3 ya2 zh7):"D45/_law_spoilt/_law_state _law_hall_here _law_pushes/_law_made _law_way _law_at/D_law_take _law_state _law_many":="ņ$Ô'śŜ#~Õ&N:,ł^y;$Ɨ{eBî4Đ9ƘĶǜǝǞǟYLÍȰcpÚƙ_t%ǠǡǢǣpNǤ-TƗeBÓC,Ú;$ŝY3FÍcŊĉ$,Ŋĉ$,ǥyĉ$,-ŞşŠšYŢţĞeBƘĶȱȲȳȴYÎÚ;$Ĳ"
example(yd0 zq4 yc1 zk1):"U46/_law_due/_law_hall_here _law_stands_here _law_pushes/_law_found _law_number _law_push _law_one _law_other":="ë$ÇİıĖå?mj%&_ì%yBæ[([*KįùġMǦčĎǧ(*Qõ};(MǦčĎģ`Â%Â'0b_ê9ƘĶǜǝǞǟY×Ńmêçéyê_ê-Ĳ"
abbrev zd2:Stmt:=top 47
abbrev zg8:List Str:=["_law_hall_here","_law_stand","_law_pushes","_law_stands_here","_law_found","_law_due_here"]
def zl9:zc0 zg8 ["_law_hall_here","_law_stand","_law_pushes"] (za2 zd2):=by and_intros
def zf6(B3):Σ' (B1:FnT Unit),{ B:FnS Unit // ∀P w K mg base (hm:Bn mg) (cs:Cst K mg) k (A7:zc1 P w K mg base k "_law_same" ["_law_found","_law_due_here"] (sp0 K B3)) f cdv A outer s H E (H':Hp),wv8 k (A.deeper (envOfC "_law_right" (za2 zd2) s.heap.objs.size f cdv))->
 PS (wx0 CX0 P w K mg base zg8 "_law_right" (za2 zd2) f cdv A outer s H E).nox (stm zd2 2) (vi4 (cx0 K H') B1 B) }:=by
 refine⟨?B1,?B2,λP w K mg base hm cs k A7 f cdv A outer s H E H' hr=>?h⟩;case h=>
  refine' vi8 rfl ?q0;case q0=>
   refine' xa4 ?t ?b;case t=>exact(gB_ (zi0 (g:=.R) (gI_ (ze6 .tuple rfl rfl hm.isinstance rfl hm.tuple boot_tuple (ga:=.R) (za0 (pv 3))))))
   case b=>
    refine' za7 ?q1;case q1=>
     exact zc9 (zd0 A7 hr rfl (wv0 (za0 (pv 4)) (vo8 (gU_ (ww0 ze2 (wy5 (gX_ rfl (za0 (pv 3)) za3 (λ_ _=>rfl)) (wy5 (gX_ rfl (za0 (pv 3)) za3 (λ_ _=>rfl)) za1)))) za1)))
def zw1(B3):Σ' (B1:FnT Unit),{ B:FnS Unit // ∀P w K mg base (hm:Bn mg) (cs:Cst K mg) k (A7:zc1 P w K mg base k "_law_same" ["_law_found","_law_due_here"] (sp0 K B3)) f cdv A outer s H E (H':Hp),wv8 k (A.deeper (envOfC "_law_right" (za2 zd2) s.heap.objs.size f cdv))->
 PS (wx0 CX0 P w K mg base zg8 "_law_right" (za2 zd2) f cdv A outer s H E).nox (stm zd2 4) (vi4 (cx0 K H') B1 B) }:=by
 refine⟨?B1,?B2,λP w K mg base hm cs k A7 f cdv A outer s H E H' hr=>?h⟩;case h=>
  refine' vi8 rfl ?q0;case q0=>
   refine' xa4 ?t ?b;case t=>exact(zv3 (zi0 (g:=.R) (zd0 A7 hr rfl (wv0 (za0 (pv 4)) (gC_ (zh0 (g:=.R) (gA_ (wl6 (ww0 ze2 (wv0 (za0 (pv 5)) za1)))) za1))))))
   case b=>
    refine' za7 ?q1;case q1=>
     exact zc9 zx7
def zf5:Σ' (B1:FnT Unit),{ B:FnS Unit // ∀P w K mg base (hm:Bn mg) (cs:Cst K mg) k f cdv A outer s H E (H':Hp),wv8 k (A.deeper (envOfC "_law_right" (za2 zd2) s.heap.objs.size f cdv))->
 PS (wx0 CX0 P w K mg base zg8 "_law_right" (za2 zd2) f cdv A outer s H E).nox (stm zd2 5) (vi4 (cx0 K H') B1 B) }:=by
 refine⟨?B1,?B2,λP w K mg base hm cs k f cdv A outer s H E H' hr=>?h⟩;case h=>
  refine' vi8 rfl ?q0;case q0=>
   refine' xa4 ?t ?b;case t=>exact(gT_ (zd1 (ga:=.R) (gb:=.R) ym5 ym6 (za0 (pv 5)) zg2 rfl))
   case b=>
    refine' za7 ?q1;case q1=>
     exact zc9 zx7
def zw0(B3)(G6)(G0):{ B:FnS Unit // ∀P w K mg base (hm:Bn mg) (cs:Cst K mg) k (A7:zc1 P w K mg base k "_law_same" ["_law_found","_law_due_here"] (sp0 K B3)) (D9:zc1 P w K mg base k "taken_back" ["hall","stand","pushes"] (sp0 K G6)) (D5:zc1 P w K mg base k "_law_stands" ["_law_hall_here","_law_stand","_law_pushes"] (sp0 K G0)) f cdv A outer s H E (H':Hp),wv8 k (A.deeper (envOfC "_law_right" (za2 zd2) s.heap.objs.size f cdv))->
 DS (wx0 CX0 P w K mg base zg8 "_law_right" (za2 zd2) f cdv A outer s H E).nox (cx0 K H') (stm zd2 8) B }:=by
 refine⟨?B,λP w K mg base hm cs k A7 D9 D5 f cdv A outer s H E H' hr=>?h⟩;case h=>exact"Ûȵ#15ĿÆŐÄäÃÏlƖ04ÜÖÜ+ApHĬÖ" zd2 zg8 zl9 A7 D9 D5
example(vl8 wz8 vb5 yd3):"L48/law/_law_script/_law_state _law_hall_here _law_stand _law_many _law_pushes _law_turn/D_law_hall _law_state _law_broad _law_much/D_law_take _law_state _law_many/D_law_row _law_state _law_hall_here _law_stand _law_many/U_law_right _law_hall_here _law_stand _law_pushes/D_law_spoilt _law_state _law_hall_here _law_pushes":="åăÁǨŐÄäő)^ǩȶ)Ž'$ÀįÄő)÷'ňǪ3#@ǫǬƚ)cÎøĭē<ǭ<RQèg<ǭňǪ3#0ǫǬƚ)?ZĥĦWXņ&ÃāpőZøǨŐÄäő)-ĄąÝÞ,ălr'$&ÉĊĜĝr'$,Ć^þ)ĤǛƕù4?--ĄąÝÞ(TĊĜĝL@L4Îăǁq',Ņ"
section
variable{P:Program}{w:World}{K:PySem.W.Frag}{mg:Str->Option Value}{base:Heap}
open H in
def wq7(F:Fun K "law" "law" wz8 f fd){k:Nat}(CB:zc1 P w K mg base k "_law_begin" ["_law_script"] (yz8 K))(hb:∀(p l:Addr) (cdv:Value) (A:Around) (outer:List Env) (s:Shared) (H:Hp) (E:XK),wv8 k (A.deeper (envOfC "law" (za2 wz8) s.heap.objs.size f cdv))->DSs (wx0 CX0 P w K mg base vb5 "law" (za2 wz8) f cdv A outer s H E).nox (cxS (WdS p l) K (λ_=>none)) ((zb9 wz8).drop 1) B)(hB:∀ns:List Int,ns.length<=63->wpR (B (rhoL vb5.length) (zs7 ns,0)) (λfl _=>fl=.rt (.bl true)) λ_ _=>False):wy0 P w K mg base CX0 (k+1) f fd ["_law_script"] (spLaw K):=by
 refine F.ok yd3 (λvs H Q E h=>?_) (λcdv A outer s H vs Q E hr h=>?_)
 ·obtain⟨a,ns,rfl,_⟩:=h;rfl
 ·obtain⟨a,ns,rfl,hS,h63,q⟩:=h
  obtain⟨fa,fd',m1,m2,m3,m4⟩:=CB.ex;refine⟨_,zg4 (zl6 (i:=1) yd3.nd rfl (Or.inl rfl) (yb8 (E:=E0) m4 hr (by rfl) m1 m2 m3 .nil vg6 (zb8 (pv 0) zf4))) (wi4 (K:=K) λp l=>hb p l cdv A outer s H E hr),?_⟩;refine⟨.ref a,rfl,a,ns,rfl,hS,h63,λp l H' sm hp hl h1 h2=>?_⟩;have cl:(zs7 ns).length<=63/\zs7 ns≠[]:=by
   unfold zs7;split
   ·exact⟨by decide,by simp⟩
   ·rename_i hne;exact⟨h63,hne⟩
  refine⟨p,l,rhoL vb5.length,(zs7 ns,0),vu4 (m:=vb5.length-2),⟨h1,h2,cl.2,cl.1,Int.le_refl 0⟩,?_⟩;refine za8 (hB ns h63) (λfl st' e=>?_) λx st' e=>e.elim
  subst e;intro v H2 _ _ z;rw[Is.bl_iff.mp z];exact q H2
end
section
variable{S:Type}{E:Exn->S->Prop}{Q:Fl->S->Prop}{B:FnS S}
def yg7{g:FnG}(I:Nat->Rho->S->Prop){l:List D}{ρ:Rho}{st:S}(n:Nat)(h0:I n ρ st)(hs:∀i d ρ st,l[i]?=some d->I (n+i) ρ st->∀P:Fl->S->Prop,(∀ρ2 st',I (n+i+1) ρ2 st'->P (.nx ρ2) st')->(∀d st',Q (.rt d) st'->P (.rt d) st')->∃ρ1,g d ρ=some ρ1/\wpR (B ρ1 st) P E)(he:∀ρ st,I (n+l.length) ρ st->Q (.nx ρ) st):wpR (vf1 S g B l ρ st) Q E:=
 yz2 I n h0 (λi d ρ st h h'=>hs i d ρ st h h' _ (λ_ _ z=>z) λ_ _ z=>z) he
def zk0{g:FnG}(I:Nat->Rho->S->Prop){l:List D}{ρ:Rho}{st:S}(n:Nat)(h0:I n ρ st)(hs:∀i d ρ st,l[i]?=some d->I (n+i) ρ st->∀P:Fl->S->Prop,(∀ρ2 st',I (n+i+1) ρ2 st'->P (.nx ρ2) st')->∃ρ1,g d ρ=some ρ1/\wpR (B ρ1 st) P E)(he:∀ρ st,I (n+l.length) ρ st->Q (.nx ρ) st):wpR (vf1 S g B l ρ st) Q E:=
 yz2 I n h0 (λi d ρ st h h'=>hs i d ρ st h h' _ λ_ _ z=>z) he
def yb4{F G:FnS S}{ρ:Rho}{st:S}(I:Rho->S->Prop)(h1:∀P:Fl->S->Prop,(∀ρ1 st1,I ρ1 st1->P (.nx ρ1) st1)->wpR (F ρ st) P E)(h2:∀ρ1 st1,I ρ1 st1->wpR (G ρ1 st1) Q E):wpR (vk4 S F G ρ st) Q E:=
 wn4 I (h1 _ λρ1 st1 h=>⟨ρ1,rfl,h⟩) h2
def ys7{t:FnT S}{ρ:Rho}{st:S}(I:Rho->S->Prop)(μ:Rho->S->Nat)(h0:I ρ st)(hs:∀ρ st,I ρ st->∀(P:Fl->S->Prop) (Z:S->Prop),(∀ρ2 st2,I ρ2 st2->μ ρ2 st2<μ ρ st->P (.nx ρ2) st2)->(∀d st',Q (.rt d) st'->P (.rt d) st')->(∀st1,Q (.nx ρ) st1->Z st1)->wpR (t ρ st) (λb st1=>if b=true then wpR (B ρ st1) P E else Z st1) E):wpR (ym0 S t B ρ st) Q E:=
 xn9 I μ h0 λρ st h=>hs ρ st h _ (λst1=>Q (.nx ρ) st1) (λ_ _ a b=>⟨a,b⟩) (λ_ _ z=>z) λ_ z=>z
end
def zu4{i j:Int}(h:vd7 i j):vg8 (.int i) (.int j)=some (.int (i*j)):=by
 unfold vg8;rw[yw9 h];rfl
abbrev ww1:=Int×Int
def wu8(p:ww1):D:=.tup [.int p.1,.int p.2]
def ze4(p:ww1):(wu8 p).imm=true:=by simp[wu8,D.imm,D.immL]
def wc8(p:ww1):(wu8 p).dep<=1:=by simp[wu8,D.dep,D.depL]
def vd0(h:Int)(p:ww1)(i:Nat):List ww1:=(List.range h.toNat).map λ(j:Nat)=>(p.1+(i:Int),p.2+(j:Int))
def cov(w h:Int)(p:ww1):List ww1:=(List.range w.toNat).flatMap (vd0 h p)
def yc4{w h:Int}:q∈cov w h p↔p.1<=q.1/\q.1<p.1+w/\p.2<=q.2/\q.2<p.2+h:=by
 unfold cov vd0;simp only[List.mem_flatMap,List.mem_range,Bo0];constructor
 ·rintro ⟨i,hi,j,hj,rfl⟩
  refine⟨?_,?_,?_,?_⟩<;>simp<;>omega
 ·rintro ⟨h1,h2,h3,h4⟩
  refine⟨(q.1-p.1).toNat,by omega,(q.2-p.2).toNat,by omega,?_⟩;refine Prod.ext ?_ ?_<;>simp<;>omega
def xn1{w h:Int}:(cov w h p).length=w.toNat*h.toNat:=by
 unfold cov vd0;rw[List.length_flatMap];simp only[Aa0,List.length_range,List.map_const',List.sum_replicate_nat]
def kd(w h:Int)(ways:Str)(s:Int):D:=.tup [.int w,.int h,.str ways,.int s]
def wr9{w h:Int}{ways:Str}{s:Int}:(kd w h ways s).imm=true:=by simp[kd,D.imm,D.immL]
def at0:atI [a,b,c,d] 0=some a:=rfl
def at1:atI [a,b,c,d] 1=some b:=rfl
def at2:atI [a,b,c,d] 2=some c:=rfl
def at3:atI [a,b,c,d] 3=some d:=rfl
def pt0:atI [a,b] 0=some a:=rfl
def pt1:atI [a,b] 1=some b:=rfl
def yb1:List D->Res Unit D:=dfn 4 2 zq1.1
def xa9(h1:D.immL m=true)(h2:l.length+m.length<=1000):vr3 l (.lst m)=some (l++m):=by
 show (if D.immL m=true/\l.length+m.length<=sizeLine then some (l++m) else none)=_;rw[if_pos ⟨h1,zj2 h2⟩]
def yc0{a b c d:Nat}(h1:a<=c)(h2:b<=d):a*b<=c*d:=Nat.mul_le_mul h1 h2
def zw2{w h:Int}{ways:Str}{s:Int}(hw:w<=30)(hh:h<=30)(h0:0<=w)(h1:0<=h)(hq:Q (.lst ((cov w h p).map wu8)) ()):wpR (yb1 [kd w h ways s,wu8 p]) Q E:=by
 refine zg3 rfl (by decide) ?_;unfold zq1;dsimp only;simp?! [zb0,va0,kd,oIx,at0,at1];rw[zf0 (by omega) h0];refine zk0 (λi ρ st'=>∃x,ρ=[.bor (kd w h ways s),.bor (wu8 p),.own (.lst (((List.range i).flatMap (vd0 h p)).map wu8)),x]) 0 ⟨_,rfl⟩ (λi d ρ st' hd hI P pn=>?_) λρ st' hI=>?_
 ·obtain⟨x,e⟩:=hI
  obtain⟨rfl,hi⟩:=ze9 hd;subst e;have him:∀i:Nat,D.immL (((List.range i).flatMap (vd0 h p)).map wu8)=true:=λi=>zb5 ze4 _
  refine⟨_,rfl,?_⟩;simp?! [zb0,ww2,him,kd,oIx,at0,at1];rw[zf0 (by omega) h1];refine zi5 (λd=>match d with | .int j=>wu8 (p.1+(i:Int),p.2+j) | _=>.non) (λρ=>∃x,ρ=[x,.bor (.int (0+(i:Int))),.bor (wu8 p)]) ⟨_,rfl⟩ (λd hd ρ hI139=>?_) (zj2 (by rw[zd5];omega)) ?_
  ·obtain⟨x,e⟩:=hI139
   subst e;obtain⟨j,hj⟩:=Bj0 hd;obtain⟨rfl,hj'⟩:=ze9 hj;refine⟨_,rfl,⟨_,rfl⟩,⟨rfl,rfl⟩,?_⟩;simp?! [zb0,wu8,oIx,pt0,pt1,ww9,wx7,wz9];simp
  ·have e:(zq2 0 h.toNat).map (λd=>match d with | .int j=>wu8 (p.1+(i:Int),p.2+j) | _=>D.non)=(vd0 h p i).map wu8:=by
    unfold zq2 vd0;rw[Bt0,Bt0];refine List.map_congr_left λj _=>?_
    simp[wu8]
   rw[e];refine⟨_,xa9 (zb5 ze4 _) ?_,pn _ _ ⟨.bor (.int (0+(i:Int))),?_⟩⟩
   ·rw[Aa0,Aa0,List.length_flatMap]
    unfold vd0;simp only[Aa0,List.length_range,List.map_const',List.sum_replicate_nat];have:i*h.toNat<=29*30:=yc0 (by omega) (by omega);omega
   ·rw[List.range_succ,List.flatMap_append,Aw0]
    simp[kd]
 ·obtain⟨x,e⟩:=hI
  subst e;rw[zd5,Ah0];have him:∀i:Nat,D.immL (((List.range i).flatMap (vd0 h p)).map wu8)=true:=λi=>zb5 ze4 _
  simp?! [zb0,him];exact hq
def vk6:List D->Res Unit D:=dfn 5 3 zq0.1
def ym1(A4 A5 w h:Int)(ways:Str):Int:=if ways = "any" then (A4-w+1)*(A5-h+1) else if ways = "row" then A4-w+1 else if ways = "column" then A5-h+1 else 1
def vd2(x:Str):Prop:=x = "any"\/x = "row"\/x = "column"\/x = "none"
def wh2{A4 A5 w h:Int}{ways:Str}{s:Int}(h1:0<=A4-w)(h2:A4-w<=100)(h3:0<=A5-h)(h4:A5-h<=100)(hw:vd2 ways)(hq:Q (.int (ym1 A4 A5 w h ways)) ()):wpR (vk6 [.int A4,.int A5,kd w h ways s]) Q E:=by
 refine zg3 rfl (by decide) ?_;unfold zq0;dsimp only;have cm:vd7 (A4-w+1) (A5-h+1):=.inl ⟨by omega,by omega⟩;simp?! [zb0,kd,oIx,at0,at1,at2,wx7,ww9,vp9,zu4 cm];have pk:vd9 ways ["any","row","column","none"] [D.int ((A4-w+1)*(A5-h+1)),D.int (A4-w+1),D.int (A5-h+1),D.int 1]=some (.int (ym1 A4 A5 w h ways)):=by
  rcases hw with e | e | e | e<;>subst e<;>rfl
 rw[pk];exact⟨.inl imm_int,hq⟩
def xp0:List D->Dr->Res Dr D:=vh4 3 2 (zv9 wx8).1
theorem xx5{B6:Bool}{st:Dr}{Q:D->Dr->Prop}{E:Exn->Dr->Prop}(hs:st.2<2 ^ 39)(h:∀(w h:Int) st',1<=w->w<=9->1<=h->h<=9->(B6=true->5<=w/\4<=h)->st'.2<=st.2+3->Q (.tup [.int w,.int h]) st'):wpR (xp0 [.bl B6] st) Q E:=by
 refine yg9 rfl (by decide) ?_;unfold zv9;dsimp only;simp?! [zb0];cases B6 with
 | true=>
   simp?! [zb0];refine zc7 (by decide) (by decide) (by omega) λv1 st1 a1 b1 c1=>?_
   simp?! [ww9,wx7,zb0];refine zc7 (by decide) (by decide) (by omega) λv2 st2 a2 b2 c2=>?_
   simp?! [ww9,wx7,zb0,wz9];exact h _ _ _ (by omega) (by omega) (by omega) (by omega) (λ_=>⟨by omega,by omega⟩) (by omega)
 | false=>
   simp?! [zb0];refine zc7 (by decide) (by decide) (by omega) λv1 st1 a1 b1 c1=>?_
   simp?! [oEq,D.dep,D.eqq,Bb0,Ao0,zb0];split
   ·refine zc7 (by decide) (by decide) (by omega) λv2 st2 a2 b2 c2=>?_
    simp?! [ww9,wx7,zb0];refine zc7 (by decide) (by decide) (by omega) λv3 st3 a3 b3 c3=>?_
    simp?! [ww9,wx7,zb0,wz9];exact h _ _ _ (by omega) (by omega) (by omega) (by omega) (λe=>by cases e) (by omega)
   ·split
    ·refine zc7 (by decide) (by decide) (by omega) λv2 st2 a2 b2 c2=>?_
     simp?! [ww9,wx7,zb0];refine zc7 (by decide) (by decide) (by omega) λv3 st3 a3 b3 c3=>?_
     simp?! [ww9,wx7,zb0,wz9];exact h _ _ _ (by omega) (by omega) (by omega) (by omega) (λe=>by cases e) (by omega)
    ·refine zc7 (by decide) (by decide) (by omega) λv2 st2 a2 b2 c2=>?_
     simp?! [ww9,wx7,zb0];refine zc7 (by decide) (by decide) (by omega) λv3 st3 a3 b3 c3=>?_
     simp?! [ww9,wx7,zb0,wz9];exact h _ _ _ (by omega) (by omega) (by omega) (by omega) (λe=>by cases e) (by omega)
def yl9{v:Int}(h0:0<=v)(h1:v<6):∃s:Int,oIx (.lst [.int 1,.int 1,.int 1,.int 2,.int 2,.int 3]) (.int v)=some (.int s)/\1<=s/\s<=3:=by
 obtain⟨d,hd,e⟩:=xh0 (l:=[.int 1,.int 1,.int 1,.int 2,.int 2,.int 3]) (by simp[D.immL,D.imm]) h0 (by simpa using h1);rw[e];simp only[Aj0,Bi0,or_false] at hd;rcases hd with r | r | r | r | r | r<;>subst r<;>exact⟨_,rfl,by decide,by decide⟩
def xk2{v:Int}(h0:0<=v)(h1:v<6):∃s:Str,oIx (.lst [.str "any",.str "any",.str "row",.str "column",.str "row",.str "none"]) (.int v)=some (.str s)/\vd2 s:=by
 obtain⟨d,hd,e⟩:=xh0 (l:=[.str "any",.str "any",.str "row",.str "column",.str "row",.str "none"]) (by simp[D.immL,D.imm]) h0 (by simpa using h1);rw[e];simp only[Aj0,Bi0,or_false] at hd;rcases hd with r | r | r | r | r | r<;>subst r<;>exact⟨_,rfl,by simp[vd2]⟩
def xk1{v:Int}(h0:0<=v)(h1:v<6):∃s:Str,oIx (.lst [.str "row",.str "column",.str "row",.str "column",.str "any",.str "none"]) (.int v)=some (.str s)/\vd2 s:=by
 obtain⟨d,hd,e⟩:=xh0 (l:=[.str "row",.str "column",.str "row",.str "column",.str "any",.str "none"]) (by simp[D.immL,D.imm]) h0 (by simpa using h1);rw[e];simp only[Aj0,Bi0,or_false] at hd;rcases hd with r | r | r | r | r | r<;>subst r<;>exact⟨_,rfl,by simp[vd2]⟩
def yz6{v:Int}(h0:0<=v)(h1:v<6):∃s:Int,oIx (.lst [.int 0,.int 0,.int 1,.int 1,.int 1,.int (-1)]) (.int v)=some (.int s)/\(s=0\/s=1\/s=-1):=by
 obtain⟨d,hd,e⟩:=xh0 (l:=[.int 0,.int 0,.int 1,.int 1,.int 1,.int (-1)]) (by simp[D.immL,D.imm]) h0 (by simpa using h1);rw[e];simp only[Aj0,Bi0,or_false] at hd;rcases hd with r | r | r | r | r | r<;>subst r<;>exact⟨_,rfl,by decide⟩
def vl0(h1:a.imm=true)(h2:b.imm=true)(h3:c.imm=true)(h4:d.imm=true):vb4 [a,b,c,d]=some (.tup [a,b,c,d]):=zi7 (by simp[D.immL,h1,h2,h3,h4]) (by simp)
def vl9:List D->Dr->Res Dr D:=vh4 9 4 (zy6 wx8).1
def vf9(a b:Int):Int:=if b<a then b else a
def yv8{a b:Int}:xs3 (λi j=>if j<i then j else i) [.int a,.int b]=some (.int (vf9 a b)):=rfl
def yc3{a b:Int}:vf9 a b<=a/\vf9 a b<=b/\(vf9 a b=a\/vf9 a b=b):=by unfold vf9;split<;>omega
def wh3{A4 A5:Int}{B6:Bool}{st:Dr}{Q:D->Dr->Prop}{E:Exn->Dr->Prop}(hs:st.2<2 ^ 39)(h1:1<=A4)(h2:A4<=9)(h3:1<=A5)(h4:A5<=9)(hb:B6=true->5<=A4/\4<=A5)(h:∀(a u:Int) (ways:Str) (s:Int) st',1<=a->a<=A4->1<=u->u<=A5->vd2 ways->(s=0\/s=1\/s=-1)->st'.2<=st.2+11->Q (kd a u ways s) st'):wpR (vl9 [.int A4,.int A5,.bl B6] st) Q E:=by
 refine yg9 rfl (by decide) ?_;unfold zy6;dsimp only;simp_all!;simp! [zi8];simp_all!;simp!;refine zc7 (by decide) (by decide) (by omega) λv1 st1 a1 b1 c1=>?_
 obtain⟨s1,e1,l1,u1⟩:=yl9 a1 b1;simp! [e1,yv8];refine zc7 (by decide) (by decide) (by omega) λv2 st2 a2 b2 c2=>?_
 obtain⟨s2,e2,l2,u2⟩:=yl9 a2 b2;simp! [e2,yv8];simp_all!;simp! [zi8];refine zc7 (by decide) (by decide) (by omega) λv3 st3 a3 b3 c3=>?_
 obtain⟨x1,e3,w1⟩:=xk2 a3 b3;simp! [e3];have m1:=yc3 (a:=A4) (b:=s1);have m2:=yc3 (a:=A5) (b:=s2);generalize vf9 A4 s1=A1 at m1;generalize vf9 A5 s2=A2 at m2;refine yb4 (λρ st'=>∃(a u:Int) (x:Str) (y:Sl),ρ=[Sl.hnd,.bor (.int A4),.bor (.int A5),.bor (.bl B6),.own (.lst [.int 1,.int 1,.int 1,.int 2,.int 2,.int 3]),.bor (.int a),.bor (.int u),.bor (.str x),y]/\1<=a/\a<=A4/\1<=u/\u<=A5/\vd2 x/\st'.2<=st.2+6) ?_ ?_
 ·intro P1 pn1
  simp!;cases B6 with
  | false=>
    simp!;exact pn1 _ _ ⟨A1,A2,x1,_,rfl,by omega,by omega,by omega,by omega,w1,by omega⟩
  | true=>
    obtain⟨k1,k2⟩:=hb rfl;rw[if_pos rfl,zb0];simp! [zi8];refine zc7 (by decide) (by decide) (by omega) λv4 st4 a4 b4 c4=>?_
    obtain⟨x2,e4,w2⟩:=xk1 a4 b4;simp! [e4];refine yb4 (λρ st'=>∃(a u:Int) (y:Sl),ρ=[Sl.hnd,.bor (.int A4),.bor (.int A5),.bor (.bl true),.own (.lst [.int 1,.int 1,.int 1,.int 2,.int 2,.int 3]),.bor (.int a),.bor (.int u),.bor (.str x2),y]/\1<=a/\a<=A4/\1<=u/\u<=A5/\st'.2<=st4.2+1) ?_ ?_
    ·intro P2 pn2
     simp! [oEq,D.dep,D.eqq,Bb0,Ao0];split
     ·refine zc7 (by decide) (by decide) (by omega) λv5 st5 a5 b5 c5=>?_
      simp! [wx7];exact pn2 _ _ ⟨_,_,_,rfl,by omega,by omega,by omega,by omega,by omega⟩
     ·exact pn2 _ _ ⟨A1,A2,_,rfl,by omega,by omega,by omega,by omega,by omega⟩
    ·rintro ρ1 st5 ⟨a,u,y,rfl,g1,g2,g3,g4,g5⟩
     simp! [oEq,D.dep,D.eqq,Bb0,Ao0];split
     ·refine zc7 (by decide) (by decide) (by omega) λv5 st6 a5 b5 c5=>?_
      simp! [wx7];exact pn1 _ _ ⟨_,_,_,_,rfl,by omega,by omega,by omega,by omega,w2,by omega⟩
     ·exact pn1 _ _ ⟨a,u,_,_,rfl,by omega,by omega,by omega,by omega,w2,by omega⟩
 ·rintro ρ1 st4 ⟨a,u,x,y,rfl,g1,g2,g3,g4,g5,g6⟩
  simp_all!;simp!;refine zc7 (by decide) (by decide) (by omega) λv4 st5 a4 b4 c4=>?_
  simp!;refine yb4 (λρ st'=>∃(a u:Int) (x:Str),ρ=[Sl.hnd,.bor (.int A4),.bor (.int A5),.bor (.bl B6),.own (.lst [.int 1,.int 1,.int 1,.int 2,.int 2,.int 3]),.bor (.int a),.bor (.int u),.bor (.str x),.bor (.int v4)]/\1<=a/\a<=A4/\1<=u/\u<=A5/\vd2 x/\st'.2<=st5.2+1) ?_ ?_
  ·intro P3 pn3
   simp! [oEq,D.dep,D.eqq,Bb0,Ao0];split
   ·have m3:=yc3 (a:=A5) (b:=3)
    simp! [yv8];generalize vf9 A5 3=B at m3;refine zc7 (by omega) (by omega) (by omega) λv5 st6 a5 b5 c5=>?_
    simp! [wx7];exact pn3 _ _ ⟨_,_,_,rfl,by omega,by omega,by omega,by omega,by simp[vd2],by omega⟩
   ·exact pn3 _ _ ⟨a,u,x,rfl,by omega,by omega,by omega,by omega,g5,by omega⟩
  ·rintro ρ1 st6 ⟨a,u,x,rfl,g1,g2,g3,g4,g5,g7⟩
   refine yb4 (λρ st'=>∃(a u:Int) (x:Str),ρ=[Sl.hnd,.bor (.int A4),.bor (.int A5),.bor (.bl B6),.own (.lst [.int 1,.int 1,.int 1,.int 2,.int 2,.int 3]),.bor (.int a),.bor (.int u),.bor (.str x),.bor (.int v4)]/\1<=a/\a<=A4/\1<=u/\u<=A5/\vd2 x/\st'.2<=st6.2+1) ?_ ?_
   ·intro P4 pn4
    simp! [oEq,D.dep,D.eqq,Bb0,Ao0];split
    ·have m3:=yc3 (a:=A4) (b:=3)
     simp! [yv8];generalize vf9 A4 3=B at m3;refine zc7 (by omega) (by omega) (by omega) λv5 st7 a5 b5 c5=>?_
     simp! [wx7];exact pn4 _ _ ⟨_,_,_,rfl,by omega,by omega,by omega,by omega,by simp[vd2],by omega⟩
    ·exact pn4 _ _ ⟨a,u,x,rfl,by omega,by omega,by omega,by omega,g5,by omega⟩
   ·rintro ρ1 st7 ⟨a,u,x,rfl,g1,g2,g3,g4,g5,g8⟩
    refine yb4 (λρ st'=>∃(a u:Int) (x:Str),ρ=[Sl.hnd,.bor (.int A4),.bor (.int A5),.bor (.bl B6),.own (.lst [.int 1,.int 1,.int 1,.int 2,.int 2,.int 3]),.bor (.int a),.bor (.int u),.bor (.str x),.bor (.int v4)]/\1<=a/\a<=A4/\1<=u/\u<=A5/\vd2 x/\st'.2<=st7.2) ?_ ?_
    ·intro P5 pn5
     simp! [oEq,D.dep,D.eqq,Bb0,Ao0];split
     ·have m3:=yc3 (a:=A4) (b:=4)
      have m4:=yc3 (a:=A5) (b:=4);simp! [yv8];generalize vf9 A4 4=B at m3;generalize vf9 A5 4=B' at m4;exact pn5 _ _ ⟨_,_,_,rfl,by omega,by omega,by omega,by omega,by simp[vd2],by omega⟩
     ·exact pn5 _ _ ⟨a,u,x,rfl,by omega,by omega,by omega,by omega,g5,by omega⟩
    ·rintro ρ1 st8 ⟨a,u,x,rfl,g1,g2,g3,g4,g5,g9⟩
     simp! [zi8];refine zc7 (by decide) (by decide) (by omega) λv5 st9 a5 b5 c5=>?_
     obtain⟨s5,e5,w5⟩:=yz6 a5 b5;simp! [e5,vl0];exact h a u x s5 st9 g1 g2 g3 g4 g5 w5 (by omega)
structure Tr where
 w:Int
 h:Int
 ways:Str
 s:Int
 x:Int
 y:Int
def Tr.kind(t:Tr):D:=kd t.w t.h t.ways t.s
def Tr.place(t:Tr):D:=wu8 (t.x,t.y)
def Tr.cells(t:Tr):List ww1:=cov t.w t.h (t.x,t.y)
structure ub8(A4 A5:Int)(sh:List ww1)(t:Tr):Prop where
 w1:1<=t.w
 h1:1<=t.h
 x0:0<=t.x
 xw:t.x+t.w<=A4
 y0:0<=t.y
 yh:t.y+t.h<=A5
 ways:vd2 t.ways
 st:t.s=0\/t.s=1\/t.s=-1
 free:∀c∈t.cells,c∉sh
structure zd7(A4 A5:Int)(sh:List ww1)(ts:List Tr):Prop where
 w1:1<=A4
 w9:A4<=9
 h1:1<=A5
 h9:A5<=9
 sub:sh.Sublist (cov A4 A5 (0,0))
 few:ts.length<=12
 tr:∀t∈ts,ub8 A4 A5 sh t
 apart:ts.Pairwise λa b=>∀c∈a.cells,c∉b.cells
def wu9(A4 A5:Int)(sh:List ww1)(ts:List Tr):D:=.tup [.int A4,.int A5,.tup (sh.map wu8),.tup (ts.map Tr.kind)]
def za6(ts:List Tr):D:=.tup (ts.map Tr.place)
def zm6(t:Tr):t.kind.imm=true:=wr9
def zg0(t:Tr):t.place.imm=true:=ze4 _
def ck(c:ww1):List Key:=[.inl c.1,.inl c.2]
def zv0(c:ww1):ze1 (wu8 c)=some (ck c):=rfl
def wf9(h:ck a=ck b):a=b:=by
 unfold ck at h;have h1:a.1=b.1/\a.2=b.2:=by simpa using h
 exact Prod.ext h1.1 h1.2
def inT(T:List ww1)(k:List Key):Prop:=∃c∈T,ck c=k
def ws4:inT T (ck c)↔c∈T:=⟨λ⟨d,hd,e⟩=>by rw[<-wf9 e];exact hd,λh=>⟨c,h,rfl⟩⟩
def yk7{w h:Int}(hw:w<=9)(hh:h<=9):(cov w h p).length<=81:=by
 rw[xn1];exact yc0 (c:=9) (d:=9) (by omega) (by omega)
def vw7(T:List ww1):D->D
 | .tup [.int x,.int y]=>.bl (decide ((x,y)∈T))
 | _=>.non
def xh7(T:List ww1)(l:List ww1):(l.map wu8).map (vw7 T)=l.map λc=>.bl (decide (c∈T)):=by rw[Bt0];rfl
def vm0:List D->Dr->Res Dr D:=vh4 17 3 (zy7 xp0 yb1 wx8 vl9 vk6).1
def vc6(d:D):D:=.tup [d,.bl true]
theorem xl5(l:List ww1):zx3 ((l.map wu8).map vc6)=some (l.map λc=>(ck c,.bl true)):=by
 induction l with
 | nil=>rfl
 | cons c l ih=>
   show zx3 (.tup [wu8 c,.bl true]::(l.map wu8).map vc6)=_;unfold zx3;rw[if_pos (by simp[D.imm]),zv0,ih];rfl
open H in
def wh4{B6:Bool}{much:Int}{st:Dr}{Q:D->Dr->Prop}{E:Exn->Dr->Prop}(hs:st.2<2 ^ 38)(hm1:1<=much)(hm2:much<=1000000000000)(hq:∀A4 A5 sh ts st',zd7 A4 A5 sh ts->st'.2<=st.2+500->Q (.tup [wu9 A4 A5 sh ts,za6 ts]) st'):wpR (vm0 [.bl B6,.int much] st) Q E:=by
 refine yg9 rfl (by decide) ?_;unfold zy7;dsimp only;simp_all!;simp!;refine xx5 (by omega) λA4 A5 st1 w1 w9 h1 h9 hb t1=>?_
 simp!;simp_all!;simp! [vl0,wz9];refine zw2 (ways:="none") (s:=0) (p:=(0,0)) (by omega) (by omega) (by omega) (by omega) ?_;simp! [zb5 ze4];simp_all!;simp!;have hc81:(cov A4 A5 (0,0)).length<=81:=yk7 w9 h9;refine zr2 (λn acc ρ st'=>∃sh x,acc=sh.map wu8/\sh.Sublist ((cov A4 A5 (0,0)).take n)/\ρ=[x,Sl.hnd,.bor (.bl B6)]/\st'.2<=st1.2+n) 0 ⟨[],_,rfl,by simp,rfl,by simp⟩ (λi d acc ρ st' hd hI=>?_) λacc ρ st' hI=>?_
 ·obtain⟨sh,x,e1,e2,e3,e4⟩:=hI
  rw[Ag0] at hd;cases q:(cov A4 A5 (0,0))[i]? with
  | none=>rw[q] at hd;cases hd
  | some c=>
    rw[q] at hd;cases hd;subst e1 e3;have hi:i<(cov A4 A5 (0,0)).length:=(Ac0.mp q).1;have hsl:=e2.length_le;rw[Bf0] at hsl;have tk:(cov A4 A5 (0,0)).take (i+1)=(cov A4 A5 (0,0)).take i++[c]:=by rw[Ba0,q];rfl
    rw[Ah0] at e2 e4;refine⟨_,rfl,?_⟩;simp! [vl4,vl3,xt4];have tk2:∃m:Int,(if B6=true then D.int 20 else D.int 9)=.int m/\0<m/\m<1073741824:=by
     split
     ·exact⟨_,rfl,by decide,by decide⟩
     ·exact⟨_,rfl,by decide,by decide⟩
    obtain⟨m,em,m0,m1⟩:=tk2;rw[em];refine zc7 m0 m1 (by omega) λv st2 a2 b2 c2=>?_
    simp! [oEq,D.dep,D.eqq,Bb0,Ao0];split
    ·refine⟨ze4 c,lt_size (by rw[Aa0];omega),sh++[c],_,by rw[Aw0];rfl,?_,rfl,by omega⟩
     rw[tk];exact e2.append (List.Sublist.refl _)
    ·refine⟨sh,_,rfl,?_,rfl,by omega⟩
     rw[tk];exact e2.trans (List.sublist_append_left _ _)
 ·obtain⟨sh,x,e1,e2,e3,e4⟩:=hI
  subst e1;rw[Ah0,Aa0,Be0] at e2;rw[Ah0,Aa0] at e4;have hsh:sh.length<=81:=Av0 e2.length_le hc81;simp! [zb5 ze4];simp_all!;simp!;refine zi5 vc6 (λρ=>∃x,ρ=[x]) ⟨_,rfl⟩ (λd hd ρ hI140=>?_) (zj2 (by rw[Aa0];omega)) ?_
  ·obtain⟨x,e⟩:=hI140
   subst e;obtain⟨c,hc,rfl⟩:=Bo0.mp hd;refine⟨_,rfl,⟨_,rfl⟩,⟨rfl,rfl⟩,?_⟩;simp! [wz9,ze4,vc6]
  ·have od:vl6 [.lst ((sh.map wu8).map vc6)]=some (.dct (.non::(zj7 (sh.map λc=>(ck c,.bl true)) ([],[])).1) (zj7 (sh.map λc=>(ck c,.bl true)) ([],[])).2):=by
    show (if ((sh.map wu8).map vc6).length<sizeLine then (zx3 ((sh.map wu8).map vc6)).map _ else none)=_;rw[if_pos (lt_size (by simp;omega)),xl5];rfl
   have hh:=Holds.all (ps:=sh.map λc=>(ck c,D.bl true)) (Holds.nil (n:=0)) (λp hp=>by obtain⟨c,_,rfl⟩:=Bo0.mp hp;exact imm_bl);have hT:Holds (.dct (.non::(zj7 (sh.map λc=>(ck c,.bl true)) ([],[])).1) (zj7 (sh.map λc=>(ck c,.bl true)) ([],[])).2) sh.length (inT sh):=hh.imp (by simp) λk=>by
    simp only[false_or,Bo0,inT];constructor
    ·rintro ⟨p,⟨c,hc,rfl⟩,e⟩;exact⟨c,hc,e⟩
    ·rintro ⟨c,hc,e⟩;exact⟨_,⟨c,hc,rfl⟩,e⟩
   rw[od];generalize D.dct (.non::(zj7 (sh.map λc=>(ck c,.bl true)) ([],[])).1) (zj7 (sh.map λc=>(ck c,.bl true)) ([],[])).2=tk at hT;have fl:=hT.flat;simp! [fl];simp_all!;simp! [va0];simp_all!;simp! [va0];simp_all!;simp!;simp_all!;simp!;refine zc7 (by decide) (by decide) (by omega) λv2 st2 a2 b2 c2=>?_
   have hmany:∃many:Int,(if B6=true then D.int 30 else D.int (2+v2))=.int many/\0<=many/\many<=30:=by
    split
    ·exact⟨_,rfl,by omega,by omega⟩
    ·exact⟨_,rfl,by omega,by omega⟩
   obtain⟨many,em,hm0,hm3⟩:=hmany;simp! [ww9,wx7,vl4,vl3,xt4,em];rw[zf0 (by omega) hm0];refine zk0 (λi ρ st''=>∃(ts:List Tr) (T:List ww1) (tk:D) (C8:Int) (y11 y12 y13 y14 y15 y16:Sl),ρ=[Sl.hnd,.bor (.bl B6),.bor (.int much),.bor (.int A4),.bor (.int A5),.own (.lst ((cov A4 A5 (0,0)).map wu8)),.own (.lst (sh.map wu8)),.own tk,.own (.lst (ts.map Tr.kind)),.own (.lst (ts.map Tr.place)),.bor (.int C8),y11,y12,y13,y14,y15,y16]/\zd7 A4 A5 sh ts/\Holds tk (81+81*i) (inT T)/\(∀c,c∈T↔c∈sh\/∃t∈ts,c∈t.cells)/\1<=C8/\C8<=much/\st''.2<=st2.2+13*i) 0 ⟨[],sh,tk,1,_,_,_,_,_,_,rfl,⟨w1,w9,h1,h9,e2,by simp,λt ht=>(by cases ht),List.Pairwise.nil⟩,hT.imp (by omega) λ_=>Iff.rfl,by simp,by omega,by omega,by simp⟩ (λi d ρ st'' hd hI P pn=>?_) λρ st'' hI=>?_
   ·obtain⟨ts,T,tk,C8,y11,y12,y13,y14,y15,y16,er,ho,hT,hc,hr1,hr2,hst⟩:=hI
    obtain⟨rfl,hi⟩:=ze9 hd;subst er;rw[Ah0] at hT hst;have hb2:st''.2<2 ^ 38+1000:=by omega
    have hi30:i<30:=by omega
    clear hs t1 e4 c2 a2 b2 hm0 hm3 hi em;refine⟨_,rfl,?_⟩;simp_all!;simp!;refine wh3 (by omega) w1 w9 h1 h9 hb λa u ways s st3 g1 g2 g3 g4 g5 g6 t3=>?_
    have kf:(kd a u ways s).flat=false:=rfl;simp! [kf];simp_all!;simp! [kd,oIx,at0,at1,wx7,ww9];refine zc7 (by omega) (by omega) (by omega) λx st4 a4 b4 c4=>?_
    refine zc7 (by omega) (by omega) (by omega) λy st5 a5 b5 c5=>?_
    simp! [wz9];simp_all!;simp!;refine zw2 (p:=(x,y)) (by omega) (by omega) (by omega) (by omega) ?_;simp! [zb5 ze4];simp_all!;simp!;refine wh2 (by omega) (by omega) (by omega) (by omega) g5 ?_;have hroom:1<=ym1 A4 A5 a u ways/\ym1 A4 A5 a u ways<=81:=by
     have z1:1<=A4-a+1/\A4-a+1<=9:=by omega
     have z2:1<=A5-u+1/\A5-u+1<=9:=by omega
     unfold ym1;split
     ·constructor
      ·have:=Int.mul_le_mul z1.1 z2.1 (by omega) (by omega);omega
      ·have:=Int.mul_le_mul z1.2 z2.2 (by omega) (by omega);omega
     ·split
      ·omega
      ·split<;>omega
    generalize ym1 A4 A5 a u ways=room at hroom;have hown:(cov a u (x,y)).length<=81:=yk7 (by omega) (by omega);have cm:vd7 C8 room:=.inr ⟨by omega,by omega⟩;simp! [va9,Aa0,wx7,zu4 cm];split
    ·rename_i hlen
     have hlen:ts.length<12:=by have:=of_decide_eq_true hlen;omega
     split
     ·rename_i hle
      have hle:C8*room<=much:=of_decide_eq_true hle;refine zi5 (vw7 T) (λρ=>∃x,ρ=[x,.bor tk]) ⟨_,rfl⟩ (λd hd ρ hI141=>?_) (zj2 (by rw[Aa0];omega)) ?_
      ·obtain⟨x',e⟩:=hI141
       subst e;obtain⟨c,hc',rfl⟩:=Bo0.mp hd;refine⟨_,rfl,⟨_,rfl⟩,⟨rfl,rfl⟩,?_⟩;simp! [(hT.in_ (zv0 c) (b:=decide (c∈T)) (by rw[decide_eq_true_eq,ws4])).1];rfl
      ·rw[xh7]
       simp! [zz7,zo3,Ao0];split
       ·rename_i hany
        have hfree:∀c∈cov a u (x,y),c∉T:=λc hc' hcT=>by
         have:(List.map (λc=>decide (c∈T)) (cov a u (x,y))).any id=true:=by
          rw[List.any_map,Cj0];exact⟨c,hc',by simpa using hcT⟩
         rw[this] at hany;cases hany
        have hpos:1<=C8*room:=by have:=Int.mul_le_mul hr1 hroom.1 (by omega) (by omega);omega
        simp_all!;simp! [zu4 cm];simp_all!;simp! [ww2,zb5 zm6];refine⟨_,zx9 (by simp[D.imm,D.immL]) (by rw[Aa0];omega),?_⟩;simp_all!;simp! [ww2,zb5 zg0];refine⟨_,zx9 (by simp[D.imm,D.immL]) (by rw[Aa0];omega),?_⟩;simp!;refine zk0 (λj ρ st''=>∃(tk':D) (y16:Sl),ρ=[Sl.hnd,.bor (.bl B6),.bor (.int much),.bor (.int A4),.bor (.int A5),.own (.lst ((cov A4 A5 (0,0)).map wu8)),.own (.lst (sh.map wu8)),.own tk',.own (.lst (ts.map Tr.kind++[D.tup [.int a,.int u,.str ways,.int s]])),.own (.lst (ts.map Tr.place++[D.tup [.int x,.int y]])),.bor (.int (C8*room)),.bor (.int (0+(i:Int))),.bor (D.tup [.int a,.int u,.str ways,.int s]),.bor (D.tup [.int x,.int y]),.bor (.lst ((cov a u (x,y)).map wu8)),.bor (.int room),y16]/\Holds tk' (81+81*i+j) (inT (T++(cov a u (x,y)).take j))/\st''=st5) 0 ⟨tk,_,rfl,by simpa using hT,rfl⟩ (λj d ρ st'' hd hI P2 pn2=>?_) λρ st'' hI=>?_
        ·obtain⟨tk',y16,er,hT',es⟩:=hI
         rw[Ag0] at hd;cases q:(cov a u (x,y))[j]? with
         | none=>rw[q] at hd;cases hd
         | some c=>
           rw[q] at hd;cases hd;subst er es;have hj:j<(cov a u (x,y)).length:=(Ac0.mp q).1;obtain⟨ks,vs,rfl,k1,k2,k3,k4⟩:=id hT';refine⟨_,rfl,?_⟩;simp! [va7,k1,zv0];refine⟨ks,vs,rfl,xg6 (by omega),pn2 _ _ ⟨_,_,rfl,?_,rfl⟩⟩;refine(hT'.put (k:=ck c) (v:=.bl true) imm_bl).imp (by omega) λk=>?_
           rw[Ah0,Ba0,q];simp only[inT,Ay0,Option.toList,Ae0];constructor
           ·rintro (⟨c',h1,h2⟩ | h)
            ·exact⟨c',by rcases h1 with h1 | h1<;>simp[h1],h2⟩
            ·exact⟨c,by simp,h⟩
           ·rintro ⟨c',h1,h2⟩
            rcases h1 with h1 | h1 | h1
            ·exact .inl ⟨c',.inl h1,h2⟩
            ·exact .inl ⟨c',.inr h1,h2⟩
            ·subst h1;exact .inr h2
        ·obtain⟨tk',y16,er,hT',es⟩:=hI
         subst er es;rw[Ah0,Aa0,Be0] at hT';have hnew:ub8 A4 A5 sh ⟨a,u,ways,s,x,y⟩:=⟨g1,g3,a4,by show x+a<=A4;omega,a5,by show y+u<=A5;omega,g5,g6,λc hc' hcs=>hfree c hc' ((hc c).mpr (.inl hcs))⟩;refine pn _ _ ⟨ts++[⟨a,u,ways,s,x,y⟩],T++cov a u (x,y),tk',C8*room,.bor (.int (0+(i:Int))),.bor (D.tup [.int a,.int u,.str ways,.int s]),.bor (D.tup [.int x,.int y]),.bor (.lst ((cov a u (x,y)).map wu8)),.bor (.int room),y16,?_,⟨w1,w9,h1,h9,ho.sub,by rw[An0];simp;omega,λt ht=>?_,?_⟩,hT'.imp (by omega) λ_=>Iff.rfl,λc=>?_,hpos,hle,by omega⟩
         ·rw[Aw0,Aw0];rfl
         ·rcases Ay0.mp ht with ht | ht
          ·exact ho.tr t ht
          ·rw[Ae0.mp ht];exact hnew
         ·refine Ca0.mpr ⟨ho.apart,List.pairwise_singleton _ _,λt ht t' ht' c hc1 hc2=>?_⟩
          rw[Ae0.mp ht'] at hc2;exact hfree c hc2 ((hc c).mpr (.inr ⟨t,ht,hc1⟩))
         ·rw[Ay0,hc c]
          constructor
          ·rintro ((h | ⟨t,ht,h⟩) | h)
           ·exact .inl h
           ·exact .inr ⟨t,by simp[ht],h⟩
           ·exact .inr ⟨⟨a,u,ways,s,x,y⟩,by simp,h⟩
          ·rintro (h | ⟨t,ht,h⟩)
           ·exact .inl (.inl h)
           ·rcases Ay0.mp ht with ht | ht
            ·exact .inl (.inr ⟨t,ht,h⟩)
            ·rw[Ae0.mp ht] at h;exact .inr h
       ·exact pn _ _ ⟨ts,T,tk,C8,_,_,_,_,_,_,rfl,ho,hT.imp (by omega) λ_=>Iff.rfl,hc,hr1,hr2,by omega⟩
     ·exact pn _ _ ⟨ts,T,tk,C8,_,_,_,_,_,_,rfl,ho,hT.imp (by omega) λ_=>Iff.rfl,hc,hr1,hr2,by omega⟩
    ·exact pn _ _ ⟨ts,T,tk,C8,_,_,_,_,_,_,rfl,ho,hT.imp (by omega) λ_=>Iff.rfl,hc,hr1,hr2,by omega⟩
   ·obtain⟨ts,T,tk,C8,y11,y12,y13,y14,y15,y16,er,ho,hT,hc,hr1,hr2,hst⟩:=hI
    subst er;rw[zd5,Ah0] at hst;simp! [yd8,zb5 ze4,zb5 zm6,zb5 zg0,vl0,wz9];exact hq A4 A5 sh ts st'' ho (by omega)
def dx(d:Int):Int:=if d=0 then 1 else if d=2 then -1 else 0
def dy(d:Int):Int:=if d=1 then 1 else if d=3 then -1 else 0
def Dir(d:Int):Prop:=0<=d/\d<4
def Dir.cases{d:Int}(h:Dir d):d=0\/d=1\/d=2\/d=3:=by obtain⟨h1,h2⟩:=h;omega
def yl0:List D->Res Unit D:=dfn 2 2 zt1.1
def yt1{d:Int}(hd:Dir d)(hq:Q (wu8 (p.1+dx d,p.2+dy d)) ()):wpR (yl0 [wu8 p,.int d]) Q E:=by
 refine zg3 rfl (by decide) ?_;unfold zt1;dsimp only;have l4:∀a b c e:Int,ve0 [.int a,.int b,.int c,.int e]=some (.lst [.int a,.int b,.int c,.int e]):=λa b c e=>zi8 (by simp[D.immL,D.imm]) (by simp)
 rcases hd.cases with r | r | r | r<;>subst r<;>simp?! [zb0,wu8,oIx,pt0,pt1,l4,at0,at1,at2,at3,ww9,wx7,wz9]<;>exact hq
def vm1:List D->Res Unit D:=dfn 2 2 zy8.1
def wz1(ways:Str)(d:Int):Bool:=ways == "any"||ways == (if d % 2=0 then "row" else "column")
def wh5{w h s d:Int}{ways:Str}(hd:Dir d)(hq:Q (.bl (wz1 ways d)) ()):wpR (vm1 [kd w h ways s,.int d]) Q E:=by
 refine zg3 rfl (by decide) ?_;unfold zy8;dsimp only;have cm:(0:Int)<2:=by decide
 have i2:∀{d:Int},iOp (λ_ j=>0<j) (λi j=>D.int (i % j)) (.int d) (.int 2)=some (.int (d % 2)):=λ{d}=>yw9 (C:=λ_ j=>0<j) cm
 simp?! [zb0,kd,oIx,at2,yi2,vl3,i2];by_cases hw:ways == ("any" : Str)
 ·simp?! [hw,zb0]
  have:wz1 ways d=true:=by simp[wz1,hw]
  rw[this] at hq;exact hq
 ·have hw':(ways == ("any" : Str))=false:=by simpa using hw
  simp?! [hw',zb0];have e:wz1 ways d=(ways == (if d % 2=0 then "row" else "column")):=by simp[wz1,hw']
  rw[e] at hq;rcases hd.cases with r | r | r | r<;>subst r<;>exact⟨.inl imm_bl,hq⟩
def Tr.ahead(t:Tr)(d:Int):List ww1:=cov t.w t.h (t.x+dx d,t.y+dy d)
def Tr.to(t:Tr)(d:Int):Tr:={ t with x:=t.x+dx d,y:=t.y+dy d }
def okT(A4 A5:Int)(sh:List ww1)(t:Tr)(d:Int):Prop:=wz1 t.ways d=true/\∀c∈t.ahead d,c∉sh/\0<=c.1/\c.1<A4/\0<=c.2/\c.2<A5
def hit(t u:Tr)(d:Int):Prop:=∃c∈u.cells,c∈t.ahead d
inductive va2(ts:List Tr)(d:Int)(n:Nat):Nat->Prop where
 | self:va2 ts d n n
 | more {m k:Nat} {t u:Tr}:va2 ts d n m->ts[m]?=some t->ts[k]?=some u->hit t u d->va2 ts d n k
theorem yj6(c:ww1):∀l:List ww1,inD (wu8 c) (l.map wu8)=some (decide (c∈l))
 | []=>by simp[inD]
 | a::l=>by
   show ((D.eqq (wu8 a) (wu8 c)).bind λb=>(inD (wu8 c) (l.map wu8)).map λx=>b||x)=_;rw[yj6 c l];have e:D.eqq (wu8 a) (wu8 c)=some (decide (a=c)):=by
    show (D.eqq (.int a.1) (.int c.1)).bind (λx=>(D.eqL [.int a.2] [.int c.2]).map λy=>x&&y)=_;rw[zy3];show (D.eqL [.int a.2] [.int c.2]).map (λy=>(a.1 == c.1)&&y)=_;show ((D.eqq (.int a.2) (.int c.2)).bind (λx=>(D.eqL [] []).map λy=>x&&y)).map (λy=>(a.1 == c.1)&&y)=_;rw[zy3];show some ((a.1 == c.1)&&((a.2 == c.2)&&true))=_;rw[Option.some.injEq,Cd0];simp[Prod.ext_iff]
   rw[e];simp only[Option.bind_some,Ao0,Option.some.injEq];by_cases h:a=c
   ·subst h;simp
   ·have h':c≠a:=λz=>h z.symm
    simp[h,h',Aj0]
theorem xh2(k:Nat):∀l:List Nat,inD (.int k) (l.map λj:Nat=>D.int j)=some (decide (k∈l))
 | []=>by simp[inD]
 | a::l=>by
   show ((D.eqq (.int a) (.int k)).bind λb=>(inD (.int k) (l.map λj:Nat=>D.int j)).map λx=>b||x)=_;rw[xh2 k l];simp only[zy3,Option.bind_some,Ao0,Option.some.injEq];by_cases h:a=k
   ·subst h;simp
   ·have h':k≠a:=λz=>h z.symm
    have h'':((a:Int) == (k:Int))=false:=by rw[beq_eq_false_iff_ne];omega
    rw[h''];simp[h',Aj0]
def yv4{neg:Bool}{c:ww1}{l:List ww1}:oIn neg (wu8 c) (.tup (l.map wu8))=some (.bl (if neg then !decide (c∈l) else decide (c∈l)))/\oIn neg (wu8 c) (.lst (l.map wu8))=some (.bl (if neg then !decide (c∈l) else decide (c∈l))):=by
 have hd:D.depL (l.map wu8)<=30:=Av0 (zm7 wc8 l) (by decide);constructor
 ·show (if D.depL (l.map wu8)<=30 then (inD (wu8 c) (l.map wu8)).map λx=>D.bl (if neg then !x else x) else none)=_
  rw[if_pos hd,yj6];rfl
 ·show (if D.depL (l.map wu8)<=30 then (inD (wu8 c) (l.map wu8)).map λx=>D.bl (if neg then !x else x) else none)=_
  rw[if_pos hd,yj6];rfl
def yq3{neg:Bool}{k:Nat}{l:List Nat}:oIn neg (.int k) (.lst (l.map λj:Nat=>D.int j))=some (.bl (if neg then !decide (k∈l) else decide (k∈l))):=by
 have hd:D.depL (l.map λj:Nat=>D.int j)<=30:=Av0 (zm7 (n:=0) (λa=>by simp[D.dep]) l) (by decide);show (if D.depL (l.map λj:Nat=>D.int j)<=30 then (inD (.int k) (l.map λj:Nat=>D.int j)).map λx=>D.bl (if neg then !x else x) else none)=_;rw[if_pos hd,xh2];rfl
def zs6{ts:List Tr}{m:Nat}{t:Tr}(h:ts[m]?=some t):oIx (.tup (ts.map Tr.kind)) (.int m)=some t.kind:=(zx5 (zm6 t) (by omega) (by rw[As0,Ag0,h];rfl)).2
def zj4{ts:List Tr}{m:Nat}{t:Tr}(h:ts[m]?=some t):oIx (.tup (ts.map Tr.place)) (.int m)=some t.place:=(zx5 (zg0 t) (by omega) (by rw[As0,Ag0,h];rfl)).2
def wv4(g:List Nat):List D:=g.map λj:Nat=>D.int j
def zj0(g:List Nat):D.immL (wv4 g)=true:=zb5 (λa=>imm_int) g
structure Cfg(A4 A5:Int)(sh:List ww1)(ts:List Tr):Prop where
 few:ts.length<=12
 sh:sh.length<=81
 wh:∀t∈ts,0<=t.w/\t.w<=9/\0<=t.h/\t.h<=9
def xd7{S:Type}{E:Exn->S->Prop}{st:S}{Q:D->S->Prop}{l T:List ww1}{x:Sl}{d:D}(hd:d=.tup (T.map wu8)\/d=.lst (T.map wu8))(hl:l.length<=1000)(hq:Q (.bl (decide (∃c∈l,c∈T))) st) :
 wpR (wy9 S (gN 0) (vh2 S) (fP S (o2 (oIn false) (vr 0) (vr 1))) (l.map wu8) [] [x,.bor d] st) (λr st2=>wpR (ww7 (zz7 (λbs=>bs.any id) [D.lst r]) st2) Q E) E:=by
 refine zi5 (vw7 T) (λρ=>∃x,ρ=[x,.bor d]) ⟨_,rfl⟩ (λe he ρ hI142=>?_) (zj2 (by rw[Aa0];omega)) ?_
 ·obtain⟨x',er⟩:=hI142
  subst er;obtain⟨c,hc',rfl⟩:=Bo0.mp he;refine⟨_,rfl,⟨_,rfl⟩,⟨rfl,rfl⟩,?_⟩;have e1:oIn false (wu8 c) d=some (.bl (decide (c∈T))):=by
   rcases hd with r | r
   ·rw[r];exact yv4.1
   ·rw[r];exact yv4.2
  simp! [e1];rfl
 ·rw[xh7]
  simp! [zz7,zo3,Ao0];have e2:(l.map λc=>decide (c∈T)).any id=decide (∃c∈l,c∈T):=by
   rw[Cd0,List.any_map,Cj0,decide_eq_true_eq];simp
  rw[e2];exact hq
def vk2:List D->Res Unit D:=dfn 14 4 (zy4 yb1 yl0 vm1).1
def xf7{g:List Nat}{j m:Nat}(h:g[j]?=some m):oIx (.lst (wv4 g)) (.int j)=some (.int m):=(zx5 imm_int (by omega) (by rw[As0];unfold wv4;rw[Ag0,h];rfl)).1
def yj4(g:List Nat):zv1 (wv4 g)=some (g.map λj:Nat=>(j:Int)):=yn8 (f:=λj:Nat=>(j:Int)) g
open H in
def yt7(g:List Nat):∃g':List Nat,(sortI (g.map λj:Nat=>(j:Int))).map D.int=wv4 g'/\g'.Perm g/\g'.Pairwise (·<=·):=by
 have hp:=PySem.W.sortI_perm (g.map λj:Nat=>(j:Int));have hr:=PySem.W.sortI_rises (g.map λj:Nat=>(j:Int));have hm:∀i∈sortI (g.map λj:Nat=>(j:Int)),((i.toNat:Nat):Int)=i:=λi hi=>by
  obtain⟨j,_,e⟩:=Bo0.mp (hp.mem_iff.mp hi);omega
 refine⟨(sortI (g.map λj:Nat=>(j:Int))).map Int.toNat,?_,?_,?_⟩
 ·unfold wv4
  rw[Bt0];refine List.map_congr_left λi hi=>?_
  show D.int i=D.int ((i.toNat:Nat):Int);rw[hm i hi]
 ·have:=hp.map Int.toNat
  rw[Bt0] at this;refine this.trans (List.Perm.of_eq ?_);rw[show (Int.toNat ∘ λj:Nat=>(j:Int))=id from funext λj=>As0 j,List.map_id]
 ·rw[List.pairwise_map]
  exact hr.imp λh=>Int.toNat_le_toNat h
def zr1(A4 A5:Int)(sh:List ww1)(ts:List Tr)(d:Int)(n:Nat)(t:Tr):Prop:=
 t.s<0\/(∃m t',va2 ts d n m/\ts[m]?=some t'/\¬okT A4 A5 sh t' d)\/(t.s=0/\∃m,m≠n/\va2 ts d n m)
structure wx9(A4 A5:Int)(sh:List ww1)(ts:List Tr)(d:Int)(n:Nat)(g:List Nat):Prop where
 nd:g.Nodup
 up:g.Pairwise (·<=·)
 all:∀m,m∈g↔va2 ts d n m
 lt:∀m∈g,m<ts.length
 ok:∀m∈g,∀t,ts[m]?=some t->okT A4 A5 sh t d
 str:∀t,ts[n]?=some t->¬t.s<0/\(t.s=0->∀m∈g,m=n)
def muS(ρ:Rho):Nat:=match (ρ[9]?:Option Sl) with
 | some (Sl.bor (D.int a))=>20-a.toNat
 | _=>0
theorem zp0:∀(N:Nat) (g:List Nat),g.Nodup->(∀m∈g,m<N)->g.length<=N
 | 0,g,_,h=>by
   cases g with
   | nil=>exact Al0 _
   | cons a g=>exact absurd (h a (by simp)) (Nat.not_lt_zero _)
 | N+1,g,nd,h=>by
   by_cases hN:N∈g
   ·have h1:=zp0 N (g.erase N) (nd.erase N) λm hm=>by
     have:=h m (List.mem_of_mem_erase hm);have h2:m≠N:=λz=>by subst z;exact(List.Nodup.not_mem_erase nd) hm
     omega
    rw[List.length_erase_of_mem hN] at h1;omega
   ·have h1:=zp0 N g nd λm hm=>by
     have:=h m hm;have h2:m≠N:=λz=>by subst z;exact hN hm
     omega
    omega
def zl4(A4 A5:Int)(c:ww1):Bool:=(decide (0<=c.1)&&decide (c.1<A4))&&(decide (0<=c.2)&&decide (c.2<A5))
def vw3(A4 A5:Int):D->D
 | .tup [.int x,.int y]=>.bl (zl4 A4 A5 (x,y))
 | _=>.non
def wb5(A4 A5:Int)(l:List ww1):(l.map wu8).map (vw3 A4 A5)=l.map λc=>.bl (zl4 A4 A5 c):=by rw[Bt0];rfl
def xn7{S:Type}{E:Exn->S->Prop}{st:S}{Q:D->S->Prop}{l:List ww1}{x y:Sl}{A4 A5:Int}(hl:l.length<=1000)(hq:Q (.bl (l.all (zl4 A4 A5))) st) :
 wpR (wy9 S (gT 2 (gsCons (gN 0) (gsCons (gN 1) gsNil))) (vh2 S) (vm3 S (yx1 S (wx7 λi j=>.bl (decide (i<=j))) (wx7 λi j=>.bl (decide (i<j))) (fP S (cn (.int 0))) (fP S (vr 0)) (fP S (vr 2))) (yx1 S (wx7 λi j=>.bl (decide (i<=j))) (wx7 λi j=>.bl (decide (i<j))) (fP S (cn (.int 0))) (fP S (vr 1)) (fP S (vr 3)))) (l.map wu8) [] [x,y,.bor (.int A4),.bor (.int A5)] st) (λr st2=>wpR (ww7 (zz7 (λbs=>bs.all id) [D.lst r]) st2) Q E) E:=by
 refine zi5 (vw3 A4 A5) (λρ=>∃x y,ρ=[x,y,.bor (.int A4),.bor (.int A5)]) ⟨_,_,rfl⟩ (λe he ρ hI143=>?_) (zj2 (by rw[Aa0];omega)) ?_
 ·obtain⟨x',y',er⟩:=hI143
  subst er;obtain⟨c,hc',rfl⟩:=Bo0.mp he;refine⟨_,rfl,⟨_,_,rfl⟩,⟨rfl,rfl⟩,?_⟩;simp! [wx7];have e:vw3 A4 A5 (wu8 c)=.bl (zl4 A4 A5 c):=rfl;rw[e];unfold zl4;by_cases h1:0<=c.1<;>by_cases h2:c.1<A4<;>by_cases h3:0<=c.2<;>by_cases h4:c.2<A5<;>simp[h1,h2,h3,h4,D.imm]
 ·rw[wb5]
  simp! [zz7,zo3,Ao0];have e2:(l.map λc=>zl4 A4 A5 c).all id=l.all (zl4 A4 A5):=by rw[List.all_map];rfl
  rw[e2];exact hq
def wp_step{A4 A5:Int}{sh:List ww1}{ts:List Tr}{n:Nat}{d:Int}{t0:Tr}{Q:D->Unit->Prop}{E:Exn->Unit->Prop}(hc:Cfg A4 A5 sh ts)(hn:ts[n]?=some t0)(hd:Dir d)(hN:zr1 A4 A5 sh ts d n t0->Q .non ())(hL:∀g:List Nat,wx9 A4 A5 sh ts d n g->Q (.lst (wv4 g)) ()):wpR (vk2 [wu9 A4 A5 sh ts,za6 ts,.int n,.int d]) Q E:=by
 refine zg3 rfl (by decide) ?_;unfold zy4;dsimp only;rw  [zb0];simp! [wu9,za6];rw  [zb0];simp! [zs6 hn];have ks:∀t:Tr,oIx t.kind (.int 3)=some (.int t.s):=λt=>rfl
 simp! [ks,wx7];by_cases hs:t0.s<0
 ·rw[Aj1 hs]
  simp!;exact hN (.inl hs)
 ·rw[Ai1 hs]
  simp!;simp_all!;simp! [zi8];simp_all!;simp!;rw  [zb0];refine ys7 (λρ st=>∃(g:List Nat) (at':Nat) (x10 x11 x12 x13:Sl),ρ=[Sl.bor (wu9 A4 A5 sh ts),.bor (za6 ts),.bor (.int n),.bor (.int d),.bor (.int A4),.bor (.int A5),.bor (.tup (sh.map wu8)),.bor (.tup (ts.map Tr.kind)),.own (.lst (wv4 g)),.bor (.int at'),x10,x11,x12,x13]/\g.Nodup/\(∀m∈g,m<ts.length/\va2 ts d n m)/\n∈g/\at'<=g.length/\(∀j m t,j<at'->g[j]?=some m->ts[m]?=some t->okT A4 A5 sh t d/\∀k u,ts[k]?=some u->hit t u d->k∈g)) (λρ _=>muS ρ) ⟨[n],0,_,_,_,_,rfl,by simp,λm hm=>?_,by simp,by simp,λj m t hj=>absurd hj (Nat.not_lt_zero _)⟩ ?_
  ·rw[Ae0.mp hm]
   exact⟨(Ac0.mp hn).1,.self⟩
  ·intro ρ st hI P Z pn pr pz
   obtain⟨g,at',x10,x11,x12,x13,rfl,nd,hg,hng,hat,B7⟩:=hI;have hgl:g.length<=ts.length:=zp0 _ g nd λm hm=>(hg m hm).1
   have few:=hc.few;have gl:(wv4 g).length=g.length:=by unfold wv4;rw[Aa0]
   simp! [va9,wx7,gl];by_cases hlt:at' < g.length
   ·rw[Aj1 (show ((at':Nat):Int)<(g.length:Int) by omega),if_pos rfl]
    obtain⟨m,hm⟩:∃m,g[at']?=some m:=⟨_,Ad0 hlt⟩;have hmg:=Ai0 hm;obtain⟨hmN,hmR⟩:=hg m hmg;obtain⟨t,ht⟩:∃t,ts[m]?=some t:=⟨_,Ad0 hmN⟩;obtain⟨q1,q2,q3,q4⟩:=hc.wh t (Ai0 ht);simp_all!;simp! [xf7 hm];simp_all!;simp! [za6,zs6 ht,zj4 ht];refine yt1 (p:=(t.x,t.y)) hd ?_;refine zw2 (by omega) (by omega) q1 q3 ?_;have ha:cov t.w t.h ((t.x,t.y).1+dx d,(t.x,t.y).2+dy d)=t.ahead d:=rfl;rw[ha];have ha81:(t.ahead d).length<=81:=yk7 q2 q4;simp! [zb5 ze4];simp_all!;simp! [zs6 ht];refine wh5 hd ?_;by_cases hgo:wz1 t.ways d=true
    ·rw[hgo]
     simp!;refine xd7 (.inl rfl) (by omega) ?_;simp!;by_cases hsh:∃c∈t.ahead d,c∈sh
     ·rw[Aj1 hsh,if_pos rfl]
      refine hR_ _ _ ?_;refine pr _ _ (hN (.inr (.inl ⟨m,t,hmR,ht,λok=>?_⟩)));obtain⟨c,h1,h2⟩:=hsh;exact(ok.2 c h1).1 h2
     ·rw[Ai1 hsh]
      simp!;simp_all!;simp!;refine xn7 (by omega) ?_;simp!;by_cases hin:(t.ahead d).all (zl4 A4 A5)=true
      ·rw[hin]
       simp!;have hok:okT A4 A5 sh t d:=⟨hgo,λc hc'=>⟨λh=>hsh ⟨c,hc',h⟩,by
        have:=List.all_eq_true.mp hin c hc';simp[zl4] at this;omega⟩⟩
       simp_all!;simp! [va9,Aa0];rw[zf0 (by omega) (by omega)];refine zk0 (λk ρ st'=>∃(g':List Nat) (x12 x13:Sl),ρ=[Sl.bor (wu9 A4 A5 sh ts),.bor (za6 ts),.bor (.int n),.bor (.int d),.bor (.int A4),.bor (.int A5),.bor (.tup (sh.map wu8)),.bor (.tup (ts.map Tr.kind)),.own (.lst (wv4 g')),.bor (.int at'),.bor (.int m),.own (.lst ((t.ahead d).map wu8)),x12,x13]/\g <+: g'/\g'.Nodup/\(∀m∈g',m<ts.length/\va2 ts d n m)/\(∀k' u,k' < k->ts[k']?=some u->hit t u d->k'∈g')) 0 ⟨g,_,_,rfl,List.prefix_refl _,nd,hg,λk' u h=>absurd h (Nat.not_lt_zero _)⟩ (λk e ρ st' hd' hI P2 pn2=>?_) λρ st' hI=>?_
       ·obtain⟨g',x12,x13,er,hpre,nd',hg',hk'⟩:=hI
        obtain⟨rfl,hkN⟩:=ze9 hd';rw[As0] at hkN;subst er;rw[Ah0] at hk';obtain⟨u,hu⟩:∃u,ts[k]?=some u:=⟨_,Ad0 hkN⟩;obtain⟨p1,p2,p3,p4⟩:=hc.wh u (Ai0 hu);have hgl':g'.length<=ts.length:=zp0 _ g' nd' λm hm=>(hg' m hm).1
        have k0:(0:Int)+(k:Int)=(k:Int):=by omega
        refine⟨_,rfl,?_⟩;simp_all!;simp! [za6,k0,zs6 hu,zj4 hu];refine zw2 (p:=(u.x,u.y)) (by omega) (by omega) p1 p3 ?_;have hu81:u.cells.length<=81:=yk7 p2 p4;have hcu:cov u.w u.h (u.x,u.y)=u.cells:=rfl;rw[hcu];have on:∀g:List Nat,wv4 g=g.map λj:Nat=>D.int j:=λ_=>rfl
        simp! [zb5 ze4,on,yq3];by_cases hkg:k∈g'
        ·rw[Aj1 hkg]
         simp!;refine pn2 _ _ ⟨g',_,_,rfl,hpre,nd',hg',λk'' u' h1 h2 h3=>?_⟩;by_cases h4:k''=k
         ·subst h4;exact hkg
         ·exact hk' k'' u' (by omega) h2 h3
        ·rw[Ai1 hkg]
         simp!;refine xd7 (.inr rfl) (by omega) ?_;simp!;by_cases hh:∃c∈u.cells,c∈t.ahead d
         ·rw[Aj1 hh,if_pos rfl]
          have im':D.immL (g'.map λj:Nat=>D.int j)=true:=zj0 g';simp! [ww2,im'];refine⟨_,zx9 imm_int (by rw[Aa0];omega),pn2 _ _ ⟨g'++[k],.bor (.int k),.own (.lst (u.cells.map wu8)),?_,hpre.trans (List.prefix_append _ _),?_,?_,?_⟩⟩
          ·unfold wv4
           rw[Aw0];rfl
          ·rw[List.nodup_append]
           refine⟨nd',by simp,λa ha b hb e=>?_⟩;rw[Ae0.mp hb] at e;subst e;exact hkg ha
          ·intro m' hm'
           rcases Ay0.mp hm' with h | h
           ·exact hg' m' h
           ·rw[Ae0.mp h]
            exact⟨hkN,.more hmR ht hu hh⟩
          ·intro k'' u' h1 h2 h3
           by_cases h4:k''=k
           ·subst h4;simp
           ·exact Bd0 _ (hk' k'' u' (by omega) h2 h3)
         ·rw[Ai1 hh]
          simp!;refine pn2 _ _ ⟨g',_,_,rfl,hpre,nd',hg',λk'' u' h1 h2 h3=>?_⟩;by_cases h4:k''=k
          ·subst h4
           rw[hu] at h2;cases h2;exact absurd h3 hh
          ·exact hk' k'' u' (by omega) h2 h3
       ·obtain⟨g',x12,x13,er,hpre,nd',hg',hk'⟩:=hI
        subst er;simp! [ww9,wx7];rw[Ah0,zd5,As0] at hk';refine pn _ _ ⟨g',at' + 1,_,_,_,_,rfl,nd',hg',hpre.mem hng,?_,λj m' t' hj hm' ht'=>?_⟩ ?_
        ·have:=hpre.length_le;omega
        ·by_cases h5:j=at'
         ·subst h5
          have e1:g'[j]?=some m:=by
           obtain⟨r,rfl⟩:=hpre;rw[Aq0 hlt];exact hm
          rw[e1] at hm';cases hm';rw[ht] at ht';cases ht';exact⟨hok,λk u h1 h2=>hk' k u (Ac0.mp h1).1 h1 h2⟩
         ·have hj':j<at':=by omega
          have e1:g[j]?=some m':=by
           obtain⟨r,rfl⟩:=hpre;rwa [Aq0 (by omega)] at hm'
          obtain⟨z1,z2⟩:=B7 j m' t' hj' e1 ht';exact⟨z1,λk u h1 h2=>hpre.mem (z2 k u h1 h2)⟩
        ·show 20-((at':Int)+1).toNat<20-((at':Nat):Int).toNat
         omega
      ·have hin':(t.ahead d).all (zl4 A4 A5)=false:=by simpa using hin
       rw[hin'];simp!;refine pr _ _ (hN (.inr (.inl ⟨m,t,hmR,ht,λok=>hin (List.all_eq_true.mpr λc hc'=>?_)⟩)));have:=(ok.2 c hc').2;simp[zl4];omega
    ·have hgo':wz1 t.ways d=false:=by simpa using hgo
     rw[hgo'];simp!;exact pr _ _ (hN (.inr (.inl ⟨m,t,hmR,ht,λok=>hgo ok.1⟩)))
   ·rw[Ai1 (show ¬((at':Nat):Int)<(g.length:Int) by omega)]
    simp!;refine pz _ ?_;simp!;have hall:∀m,m∈g↔va2 ts d n m:=λm=>⟨λh=>(hg m h).2,λh=>by
     induction h with
     | self=>exact hng
     | more h1 h2 h3 h4 ih=>
       obtain⟨j,hj⟩:=Bj0 ih;have hjl:j<g.length:=(Ac0.mp hj).1;exact(B7 j _ _ (by omega) hj h2).2 _ _ h3 h4⟩
    have hokg:∀m∈g,∀t,ts[m]?=some t->okT A4 A5 sh t d:=λm hm t ht=>by
     obtain⟨j,hj⟩:=Bj0 hm;have hjl:j<g.length:=(Ac0.mp hj).1;exact(B7 j m t (by omega) hj ht).1
    have fin:(t0.s=0->∀m∈g,m=n)->wpR (vq4 Unit (fP Unit (o1 yi1 (cs (vr 8) nl))) [Sl.bor (wu9 A4 A5 sh ts),.bor (za6 ts),.bor (.int n),.bor (.int d),.bor (.int A4),.bor (.int A5),.bor (.tup (sh.map wu8)),.bor (.tup (ts.map Tr.kind)),.own (.lst (wv4 g)),.bor (.int at'),x10,x11,x12,x13] st) (λfl st=>match fl with
     | .rt d=>Q d st
     | .nx _=>Q .non st
     | _=>False) E:=λhz=>by
     obtain⟨g',e1,e2,e3⟩:=yt7 g;have os:yi1 [.lst (wv4 g)]=some (.lst (wv4 g')):=by
      show (zv1 (wv4 g)).bind (λns=>if ns.length<64 then some (D.lst ((sortI ns).map D.int)) else none)=_;rw[yj4];show (if (g.map λj:Nat=>(j:Int)).length<64 then some (D.lst ((sortI (g.map λj:Nat=>(j:Int))).map D.int)) else none)=_;rw[if_pos (by rw[Aa0];omega),e1]
     simp! [os,zj0];exact hL g' ⟨e2.symm.nodup nd,e3,λm=>by rw[e2.mem_iff];exact hall m,λm hm=>(hg m (e2.mem_iff.mp hm)).1,λm hm=>hokg m (e2.mem_iff.mp hm),λt ht=>by
      rw[hn] at ht;cases ht;exact⟨hs,λz m hm=>hz z m (e2.mem_iff.mp hm)⟩⟩
    rw  [zb0];simp! [va9,gl,wx7,zs6 hn,ks,zi9];by_cases hone:1<g.length
    ·rw[Aj1 (show (1:Int)<(g.length:Int) by omega)]
     simp!;by_cases hz:t0.s=0
     ·have hz':(t0.s == 0)=true:=by simpa using hz
      rw[hz',if_pos rfl];refine hN (.inr (.inr ⟨hz,?_⟩));cases g with
      | nil=>simp at hone
      | cons a g=>
        cases g with
        | nil=>simp at hone
        | cons b g=>
          by_cases ha:a=n
          ·refine⟨b,λe=>?_,(hall b).mp (by simp)⟩
           rw[ha,e] at nd;simp at nd
          ·exact⟨a,ha,(hall a).mp (by simp)⟩
     ·have hz':(t0.s == 0)=false:=by simpa using hz
      rw[hz'];simp!;have:=fin λz=>absurd z hz
      simp only[wp_ok,wp_bad,wp_some,wp_none,wp_sNil,wp_sSet,wp_sSetB,wp_sAsg,wp_sPar,wp_sIf,wp_sRet,wp_sRetV,xd3,wp_sMt,xd2,ys9,xd4,wp_sBad,wp_sAug,wp_fC,vn2,wp_fVk,vn3,wp_f2,wp_fA,wp_aNil,wp_aCons,wp_fCall,wp_fCallS,wd2,wp_fAndV,wp_fOrV,wp_fNotV,wp_fIfE,wp_fNeg,wp_fCut,wp_pNo,wp_pSo,wp_iSeq,wp_iArgs,wp_fComp,wp_fB,wp_fAnd,wp_fOr,wp_fNot,wp_fTrue,wp_sPar3,wp_sItem,wp_sDPut,wp_fChain,wp_fDisp,wp_sTab2,wp_fGet,wp_sFor,wp_fP,wp_aP,wp_tP,own?,frz,frz1,pickR,gN,gT,gsCons,gsNil,D.seq?,D.immL,flat_lst,flat_dct,flat_int,flat_str,flat_bl,flat_non,flat_tup,imm_int,imm_str,imm_bl,imm_non,imm_tup,rho0,rhoS,rhoL,D.bl.injEq,D.int.injEq,D.str.injEq,List.getElem?_nil,Ax0,List.map_nil,Ah0,if_true,if_false,Bool.and_true,Bool.true_and,Cg0,Bz0,Option.bind_some,Option.some.injEq,exists_eq_left',exists_eq_left,exists_eq_right,true_or,or_true,true_and,and_true,Bool.not_true,Co0,Option.some_or,Option.none_or,List.replicate_zero,Bn0,Bx0,List.nil_append,g0,gS,s0,sS,lC,lN,rd,putN,put,im,kp,vr,cn,o2,cs,nl,o1,ti,tb,boS,dbb,Nat.reduceAdd,Nat.reduceLT,Nat.reduceLeDiff,Nat.reduceSub,reduceIte] at this;exact this
    ·rw[Ai1 (show ¬(1:Int)<(g.length:Int) by omega)]
     simp!;have:=fin λ_ m hm=>by
      match g,hone,hng,hm with
      | [a],_,hng,hm=>rw[Ae0.mp hm,Ae0.mp hng]
      | a::b::g,hone,_,_=>simp at hone
     simp only[wp_ok,wp_bad,wp_some,wp_none,wp_sNil,wp_sSet,wp_sSetB,wp_sAsg,wp_sPar,wp_sIf,wp_sRet,wp_sRetV,xd3,wp_sMt,xd2,ys9,xd4,wp_sBad,wp_sAug,wp_fC,vn2,wp_fVk,vn3,wp_f2,wp_fA,wp_aNil,wp_aCons,wp_fCall,wp_fCallS,wd2,wp_fAndV,wp_fOrV,wp_fNotV,wp_fIfE,wp_fNeg,wp_fCut,wp_pNo,wp_pSo,wp_iSeq,wp_iArgs,wp_fComp,wp_fB,wp_fAnd,wp_fOr,wp_fNot,wp_fTrue,wp_sPar3,wp_sItem,wp_sDPut,wp_fChain,wp_fDisp,wp_sTab2,wp_fGet,wp_sFor,wp_fP,wp_aP,wp_tP,own?,frz,frz1,pickR,gN,gT,gsCons,gsNil,D.seq?,D.immL,flat_lst,flat_dct,flat_int,flat_str,flat_bl,flat_non,flat_tup,imm_int,imm_str,imm_bl,imm_non,imm_tup,rho0,rhoS,rhoL,D.bl.injEq,D.int.injEq,D.str.injEq,List.getElem?_nil,Ax0,List.map_nil,Ah0,if_true,if_false,Bool.and_true,Bool.true_and,Cg0,Bz0,Option.bind_some,Option.some.injEq,exists_eq_left',exists_eq_left,exists_eq_right,true_or,or_true,true_and,and_true,Bool.not_true,Co0,Option.some_or,Option.none_or,List.replicate_zero,Bn0,Bx0,List.nil_append,g0,gS,s0,sS,lC,lN,rd,putN,put,im,kp,vr,cn,o2,cs,nl,o1,ti,tb,boS,dbb,Nat.reduceAdd,Nat.reduceLT,Nat.reduceLeDiff,Nat.reduceSub,reduceIte] at this;exact this
def ze8(ts:List Tr)(g:List Nat)(d:Int):List Tr:=ts.mapIdx λi t=>if i∈g then t.to d else t
def zd8{g:List Nat}{d:Int}{i:Nat}:(ze8 ts g d)[i]?=(ts[i]?).map λt=>if i∈g then t.to d else t:=by
 unfold ze8;rw[List.getElem?_mapIdx]
def zh2{g:List Nat}{d:Int}:(ze8 ts g d).length=ts.length:=by unfold ze8;simp
def yn4{d:Int}:ze8 ts [] d=ts:=by
 apply Cn0;intro i;rw[zd8];cases ts[i]?<;>simp
theorem xb2{g:List Nat}{d:Int}:(ze8 ts g d).map Tr.kind=ts.map Tr.kind:=by
 apply Cn0;intro i;rw[Ag0,Ag0,zd8];cases ts[i]? with
 | none=>rfl
 | some t=>by_cases h:i∈g<;>simp[h]<;>rfl
def ze3{A4 A5:Int}(h:ts'.map Tr.kind=ts.map Tr.kind):wu9 A4 A5 sh ts'=wu9 A4 A5 sh ts:=by unfold wu9;rw[h]
theorem xl7{g:List Nat}{d:Int}(h:t∈ze8 ts g d):∃u∈ts,t.w=u.w/\t.h=u.h/\t.ways=u.ways/\t.s=u.s:=by
 obtain⟨i,hi⟩:=Bj0 h;rw[zd8] at hi;cases q:ts[i]? with
 | none=>rw[q] at hi;cases hi
 | some u=>
   rw[q] at hi;have hi:(if i∈g then u.to d else u)=t:=Option.some.inj hi;refine⟨u,Ai0 q,?_⟩;by_cases hg:i∈g
   ·rw[if_pos hg] at hi;subst hi;exact⟨rfl,rfl,rfl,rfl⟩
   ·rw[if_neg hg] at hi;subst hi;exact⟨rfl,rfl,rfl,rfl⟩
def Cfg.moved{A4 A5:Int}{sh:List ww1}{ts:List Tr}{g:List Nat}{d:Int}(h:Cfg A4 A5 sh ts):Cfg A4 A5 sh (ze8 ts g d) where
 few:=by rw[zh2];exact h.few
 sh:=h.sh
 wh:=λt ht=>by
  obtain⟨u,hu,e1,e2,_⟩:=xl7 ht;rw[e1,e2];exact h.wh u hu
def yn3{g:List Nat}{d:Int}{k:Nat}(hk:ts[k]?=some t):((ze8 ts g d).map Tr.place).set k (t.to d).place=(ze8 ts (g++[k]) d).map Tr.place:=by
 apply Cn0;intro i;rw[List.getElem?_set,Ag0,Ag0,zd8,zd8,Aa0,zh2];have hkl:k<ts.length:=(Ac0.mp hk).1;by_cases h:k=i
 ·subst h
  rw[if_pos rfl,if_pos hkl,hk];simp
 ·rw[if_neg h]
  cases ts[i]? with
  | none=>rfl
  | some u=>
    have h':i≠k:=λz=>h z.symm
    simp[h']
inductive wv1(A4 A5:Int)(sh:List ww1)(d:Int)(n:Nat)(ts:List Tr):Nat->List Tr->Prop where
 | zero:wv1 A4 A5 sh d n ts 0 ts
 | succ {k:Nat} {ts':List Tr} {g:List Nat}:wv1 A4 A5 sh d n ts k ts'->wx9 A4 A5 sh ts' d n g->wv1 A4 A5 sh d n ts (k+1) (ze8 ts' g d)
theorem wv1.len{A4 A5:Int}{d:Int}{n:Nat}{k:Nat}(h:wv1 A4 A5 sh d n ts k ts'):ts'.length=ts.length:=by
 induction h with
 | zero=>rfl
 | succ _ _ ih=>rw[zh2];exact ih
theorem wv1.kind{A4 A5:Int}{d:Int}{n:Nat}{k:Nat}(h:wv1 A4 A5 sh d n ts k ts'):ts'.map Tr.kind=ts.map Tr.kind:=by
 induction h with
 | zero=>rfl
 | succ _ _ ih=>rw[xb2];exact ih
theorem wv1.cfg{A4 A5:Int}{d:Int}{n:Nat}{k:Nat}(h:wv1 A4 A5 sh d n ts k ts')(hc:Cfg A4 A5 sh ts):Cfg A4 A5 sh ts':=by
 induction h with
 | zero=>exact hc
 | succ _ _ ih=>exact ih.moved
def zs4:List D->Res Unit D:=dfn 10 3 (zt0 vk2 yl0).1
def ww6(n:Nat)(d many:Int):D:=.tup [.int n,.int d,.int many]
open H in
def yb3{A4 A5:Int}{n:Nat}{d many:Int}(hc:Cfg A4 A5 sh ts)(hn:n<ts.length)(hd:Dir d)(h0:0<=many)(h1:many<=1000)(hN:∀(k:Nat) ts' t,(k:Int)<many->wv1 A4 A5 sh d n ts k ts'->ts'[n]?=some t->zr1 A4 A5 sh ts' d n t->Q (.int k) ())(hL:∀ts',wv1 A4 A5 sh d n ts many.toNat ts'->Q (za6 ts') ()):wpR (zs4 [wu9 A4 A5 sh ts,za6 ts,ww6 n d many]) Q E:=by
 refine zg3 rfl (by decide) ?_;unfold zt0;dsimp only;rw  [zb0];simp! [ww6];rw  [zb0];simp!;rw[zf0 (by omega) h0];refine yg7 (λi ρ st'=>∃(ts':List Tr) (x6 x7 x8 x9:Sl),ρ=[Sl.bor (wu9 A4 A5 sh ts),.bor (za6 ts'),.bor (ww6 n d many),.bor (.int n),.bor (.int d),.bor (.int many),x6,x7,x8,x9]/\wv1 A4 A5 sh d n ts i ts') 0 ⟨ts,_,_,_,_,rfl,.zero⟩ (λi e ρ st' he hI P pn pr=>?_) λρ st' hI=>?_
 ·obtain⟨ts',x6,x7,x8,x9,er,hst⟩:=hI
  obtain⟨rfl,hi⟩:=ze9 he;subst er;rw[Ah0] at hst;have hc':=hst.cfg hc;obtain⟨t,ht⟩:∃t,ts'[n]?=some t:=⟨_,Ad0 (by rw[hst.len];exact hn)⟩;have k0:(0:Int)+(i:Int)=(i:Int):=by omega
  refine⟨_,rfl,?_⟩;simp_all!;simp! [k0];rw[<-ze3 hst.kind];refine wp_step hc' ht hd (λhno=>?_) λg hg=>?_
  ·simp!
   simp_all!;simp! [va5,D.isNon];exact pr _ _ (hN i ts' t (by omega) hst ht hno)
  ·have gf:(D.lst (wv4 g)).flat=true:=zj0 g
   simp! [zj0];simp_all!;simp! [va5,D.isNon];simp_all!;simp! [za6,vg9,zb5 zg0];simp_all!;simp!;refine zk0 (λj ρ st'=>∃(x9:Sl),ρ=[Sl.bor (wu9 A4 A5 sh ts'),.bor (za6 ts'),.bor (ww6 n d many),.bor (.int n),.bor (.int d),.bor (.int many),.bor (.int i),.bor (.lst (wv4 g)),.own (.lst ((ze8 ts' (g.take j) d).map Tr.place)),x9]) 0 ⟨_,by rw[List.take_zero,yn4];rfl⟩ (λj e ρ st' he hI P2 pn2=>?_) λρ st' hI=>?_
   ·obtain⟨x9,er⟩:=hI
    unfold wv4 at he;rw[Ag0] at he;cases q:g[j]? with
    | none=>rw[q] at he;cases he
    | some k=>
      rw[q] at he;cases he;subst er;rw[Ah0];have hkg:=Ai0 q;have hkl:=hg.lt k hkg;obtain⟨u,hu⟩:∃u,ts'[k]?=some u:=⟨_,Ad0 hkl⟩;have hkt:k∉g.take j:=λhm=>by
       obtain⟨j',hj'⟩:=Bj0 hm;rw[List.getElem?_take] at hj';split at hj'
       ·rename_i hlt
        have hjl:j<g.length:=(Ac0.mp q).1;have:=(List.getElem?_inj (by omega:j' < g.length) hg.nd).mp (hj'.trans q.symm);omega
       ·cases hj'
      have hpl:oIx (.lst ((ze8 ts' (g.take j) d).map Tr.place)) (.int k)=some u.place:=(zx5 (zg0 u) (by omega) (by rw[As0,Ag0,zd8,hu];simp[hkt])).1;refine⟨_,rfl,?_⟩;simp! [hpl];refine yt1 (p:=(u.x,u.y)) hd ?_;simp! [ww2,zb5 zg0];refine⟨k,k,rfl,?_,ze4 _,pn2 _ _ ⟨.bor (.int k),?_⟩⟩
      ·unfold ixN
       rw[if_pos (by omega),if_pos (by rw[Aa0,zh2];omega)];simp
      ·have e1:wu8 ((u.x,u.y).1+dx d,(u.x,u.y).2+dy d)=(u.to d).place:=rfl
       rw[e1,yn3 hu,Ah0,Ba0,q];rfl
   ·obtain⟨x9,er⟩:=hI
    subst er;have gl:(wv4 g).length=g.length:=by unfold wv4;rw[Aa0]
    rw[Ah0,gl,Be0];simp! [yd8,zb5 zg0];rw[ze3 hst.kind];exact pn _ _ ⟨ze8 ts' g d,_,_,_,_,rfl,by rw[Ah0];exact .succ hst hg⟩
 ·obtain⟨ts',x6,x7,x8,x9,er,hst⟩:=hI
  subst er;rw[Ah0,zd5] at hst;have:own? [Sl.bor (wu9 A4 A5 sh ts),.bor (za6 ts'),.bor (ww6 n d many),.bor (.int n),.bor (.int d),.bor (.int many),x6,x7,x8,x9] 1=some (za6 ts'):=by
   show (if (za6 ts').imm=true then some (za6 ts') else none)=_;rw[if_pos (by unfold za6;rw[imm_tup];exact zb5 zg0 _)]
  simp only[wp_sRetV];exact⟨_,this,hL ts' hst⟩
def wy6:Nat->List D->Res Unit D
 | 0=>ub6
 | n+1=>dfn 2 2 (zy5 (wy6 n)).1
theorem yp0:∀(n:Nat) {d:D} {Q:D->Unit->Prop} {E:Exn->Unit->Prop},d.dep<n->d.lw=true->Q (.bl true) ()->wpR (wy6 n [d,d]) Q E
 | 0,d,Q,E,h,_,_=>absurd h (Nat.not_lt_zero _)
 | n+1,d,Q,E,hd,hp,h=>by
   refine zg3 rfl (by decide) ?_;unfold zy5;dsimp only;have lall:∀{l:List D},(∀x∈l,x.dep<n/\x.lw=true)->l.length<=sizeLine->∀{Q:List D->Unit->Prop} {E:Exn->Unit->Prop},Q ((wz5 l l).map λ_=>.bl true) ()->
    wpR (wy9 Unit (gT 2 (gsCons (gN 0) (gsCons (gN 1) gsNil))) (vh2 Unit) (vh3 Unit (wy6 n) (aP Unit (cs (vr 0) (cs (vr 1) nl)))) (wz5 l l) [] [Sl.no,Sl.no] ()) Q E:=λ{l} hx hz {Q E} hQ=>by
    refine zi5 (λ_=>.bl true) (λρ=>∃x y,ρ=[x,y]) ⟨_,_,rfl⟩ (λd hd ρ hI144=>?_) (by unfold wz5;rw[List.length_zipWith];omega) hQ;obtain⟨x,y,e⟩:=hI144;subst e;obtain⟨x,hx',rfl⟩:=xr6 hd;refine⟨_,rfl,⟨_,_,rfl⟩,⟨rfl,rfl⟩,?_⟩;simp?! [zb0];exact yp0 n (hx x hx').1 (hx x hx').2 (by first | exact rfl | exact⟨rfl,rfl⟩ | exact⟨rfl,rfl,rfl⟩)
   cases d with
   | bl b=>simp[D.lw] at hp
   | dct k v=>simp[D.lw] at hp
   | fl l=>simp[D.lw] at hp
   | non=>
     rw  [zb0];simp! [va5,D.isNon];exact h
   | int i=>
     rw  [zb0];simp! [va5,D.isNon,isI];rw  [zb0];simp! [va5,D.isNon,isI];rw  [zb0];simp! [va5,D.isNon,isI];rw  [zb0];simp! [va5,D.isNon,isI];simp! [isI,oEq,D.dep,D.eqq,Ak1,Ao0,Bb0];exact h
   | str i=>
     rw  [zb0];simp! [va5,D.isNon,isI];rw  [zb0];simp! [va5,D.isNon,isI];rw  [zb0];simp! [va5,D.isNon,isI];rw  [zb0];simp! [isI,oEq,D.dep,D.eqq,Ak1,Ao0,Bb0];exact h
   | tup l=>
     have hp':D.lwL l=true/\l.length<=sizeLine:=by simpa [D.lw] using hp
     have hx:∀x∈l,x.dep<n/\x.lw=true:=λx hx=>⟨by have:=xv3 hx;unfold D.dep at hd;omega,yq8.mp hp'.1 x hx⟩
     rw  [zb0];simp! [va5,D.isNon,isI];rw  [zb0];simp! [va5,D.isNon,isI];rw  [zb0];simp! [va5,D.isNon,isI];rw  [zb0];simp! [isI,oEq,D.dep,D.eqq,va9,Bb0,Ao0,Ak1];rw  [zb0];simp! [isI,oEq,D.dep,D.eqq,va9,Bb0,Ao0,Ak1];simp! [vr1];refine lall hx hp'.2 ?_;simp?! [zz7,xj3,Ao0,zb0];rw[show ((wz5 l l).map λ_=>true).all id=true by simp];exact h
   | lst l=>
     have hp':D.lwL l=true/\l.length<=sizeLine:=by simpa [D.lw] using hp
     have hx:∀x∈l,x.dep<n/\x.lw=true:=λx hx=>⟨by have:=xv3 hx;unfold D.dep at hd;omega,yq8.mp hp'.1 x hx⟩
     rw  [zb0];simp! [va5,D.isNon,isI];rw  [zb0];simp! [va5,D.isNon,isI];rw  [zb0];simp! [va5,D.isNon,isI];rw  [zb0];simp! [isI,oEq,D.dep,D.eqq,va9,Bb0,Ao0,Ak1];rw  [zb0];simp! [isI,oEq,D.dep,D.eqq,va9,Bb0,Ao0,Ak1];simp! [vr1];refine lall hx hp'.2 ?_;simp?! [zz7,xj3,Ao0,zb0];rw[show ((wz5 l l).map λ_=>true).all id=true by simp];exact h
def vg5:List D->Res Unit D:=dfn 6 2 yk6.1
def xo1{w h:Int}{ways:Str}{s:Int}(hw:w<=30)(hh:h<=30)(h0:0<=w)(h1:0<=h)(hq:Q (.lst ((cov w h p).map wu8)) ()):wpR (vg5 [kd w h ways s,wu8 p]) Q E:=by
 refine zg3 rfl (by decide) ?_;unfold yk6;dsimp only;simp_all!;simp! [wu8];simp_all!;simp! [va0];simp_all!;simp! [kd,oIx,at0,at1];rw[zf0 (by omega) h0];refine zk0 (λi ρ st'=>∃x,ρ=[.bor (kd w h ways s),.bor (wu8 p),.bor (.int p.1),.bor (.int p.2),.own (.lst (((List.range i).flatMap (vd0 h p)).map wu8)),x]) 0 ⟨_,rfl⟩ (λi d ρ st' hd hI P pn=>?_) λρ st' hI=>?_
 ·obtain⟨x,e⟩:=hI
  obtain⟨rfl,hi⟩:=ze9 hd;subst e;have him:∀i:Nat,D.immL (((List.range i).flatMap (vd0 h p)).map wu8)=true:=λi=>zb5 ze4 _
  refine⟨_,rfl,?_⟩;simp! [ww2,him,kd,oIx,at0,at1];rw[zf0 (by omega) h1];refine zi5 (λd=>match d with | .int j=>wu8 (p.1+(i:Int),p.2+j) | _=>.non) (λρ=>∃x,ρ=[x,.bor (.int p.1),.bor (.int (0+(i:Int))),.bor (.int p.2)]) ⟨_,rfl⟩ (λd hd ρ hI145=>?_) (zj2 (by rw[zd5];omega)) ?_
  ·obtain⟨x,e⟩:=hI145
   subst e;obtain⟨j,hj⟩:=Bj0 hd;obtain⟨rfl,hj'⟩:=ze9 hj;refine⟨_,rfl,⟨_,rfl⟩,⟨rfl,rfl⟩,?_⟩;simp! [wu8,ww9,wx7,wz9];simp
  ·have e:(zq2 0 h.toNat).map (λd=>match d with | .int j=>wu8 (p.1+(i:Int),p.2+j) | _=>D.non)=(vd0 h p i).map wu8:=by
    unfold zq2 vd0;rw[Bt0,Bt0];refine List.map_congr_left λj _=>?_
    simp[wu8]
   rw[e];refine⟨_,xa9 (zb5 ze4 _) ?_,pn _ _ ⟨.bor (.int (0+(i:Int))),?_⟩⟩
   ·rw[Aa0,Aa0,List.length_flatMap]
    unfold vd0;simp only[Aa0,List.length_range,List.map_const',List.sum_replicate_nat];have:i*h.toNat<=29*30:=yc0 (by omega) (by omega);omega
   ·rw[List.range_succ,List.flatMap_append,Aw0]
    simp[wu8,kd]
 ·obtain⟨x,e⟩:=hI
  subst e;rw[zd5,Ah0];have him:∀i:Nat,D.immL (((List.range i).flatMap (vd0 h p)).map wu8)=true:=λi=>zb5 ze4 _
  simp! [him];exact hq
def xa1{α:Type}{P:List α->Prop}(nil:P [])(append_singleton:∀l a,P l->P (l++[a]))(l:List α):P l:=by
 have h:∀l:List α,P l.reverse:=λl=>by
  induction l with
  | nil=>exact nil
  | cons a l ih=>rw[List.reverse_cons];exact append_singleton _ _ ih
 have:=h l.reverse;rwa [List.reverse_reverse] at this
def wx3(W:List (ww1×Int))(c:ww1):Option Int:=(W.reverse.find? λp=>decide (p.1=c)).map (·.2)
def xs9:wx3 [] c=none:=rfl
def yn6{v:Int}:wx3 (W++[(c0,v)]) c=if c0=c then some v else wx3 W c:=by
 unfold wx3;rw[List.reverse_append];show ((((c0,v)::W.reverse).find? λp=>decide (p.1=c))).map (·.2)=_;rw[Cl0];by_cases h:c0=c
 ·simp[h]
 ·simp[h]
def xm4(h:∀p∈W,p.1≠c):wx3 W c=none:=by
 unfold wx3;rw[List.find?_eq_none.mpr (λp hp=>by simpa using h p (List.mem_reverse.mp hp))];rfl
def zp1{W V:List (ww1×Int)}{c:ww1}:wx3 (W++V) c=(wx3 V c).or (wx3 W c):=by
 unfold wx3;rw[List.reverse_append,List.find?_append];cases V.reverse.find? (λp=>decide (p.1=c))<;>simp
theorem zy1{l:List ww1}{c:ww1}{v:Int}:wx3 (l.map λq=>(q,v)) c=if c∈l then some v else none:=by
 induction l using xa1 with
 | nil=>rfl
 | append_singleton l a ih=>
   rw[Aw0];show wx3 ((l.map λq=>(q,v))++[(a,v)]) c=_;rw[yn6,ih];by_cases h:a=c
   ·subst h;simp
   ·have h':c≠a:=λz=>h z.symm
    simp[h,h']
theorem yx8:∀{ks vs:List D},ks.length=vs.length->wv3 k ks (List.zipWith (λd u=>if ze1 d=some k' then v else u) ks vs)=if k=k' then (wv3 k ks vs).map λ_=>v else wv3 k ks vs
 | [],[],_=>by simp[wv3]
 | a::ks,b::vs,h=>by
   show wv3 k (a::ks) ((if ze1 a=some k' then v else b)::List.zipWith _ ks vs)=_;unfold wv3;by_cases e:ze1 a=some k
   ·rw[if_pos e,if_pos e,e]
    by_cases z:k=k'
    ·subst z;simp
    ·simp[z]
   ·rw[if_neg e,if_neg e];exact yx8 (by simpa using h)
 | [],_::_,h=>by cases h
 | _::_,[],h=>by cases h
theorem yo5:∀{ks vs:List D},ks.length=vs.length->wv3 k (ks++[wv9 k']) (vs++[v])=(wv3 k ks vs).or (if k'=k then some v else none)
 | [],[],_=>by
   show wv3 k [wv9 k'] [v]=_;unfold wv3;rw[zi6];by_cases e:k'=k
   ·simp[e,wv3]
   ·simp[e,wv3]
 | a::ks,b::vs,h=>by
   show wv3 k (a::(ks++[wv9 k'])) (b::(vs++[v]))=_;unfold wv3;by_cases e:ze1 a=some k
   ·rw[if_pos e,if_pos e];rfl
   ·rw[if_neg e,if_neg e];exact yo5 (by simpa using h)
 | [],_::_,h=>by cases h
 | _::_,[],h=>by cases h
open H in
def wc7(h:ks.length=vs.length):wv3 k (wy8 k' v ks vs).1 (wy8 k' v ks vs).2=if k'=k then some v else wv3 k ks vs:=by
 unfold wy8;split
 ·rename_i hs
  rw[yx8 h];by_cases e:k'=k
  ·subst e
   obtain⟨d,hd⟩:=Option.isSome_iff_exists.mp hs;rw[hd];simp
  ·have e':k≠k':=λz=>e z.symm
   simp[e,e']
 ·rename_i hs
  rw[yo5 h];by_cases e:k'=k
  ·subst e
   have hn:wv3 k' ks vs=none:=by simpa using hs
   rw[hn];simp
  ·simp[e]
def wz2(d:D)(W:List (ww1×Int)):Prop:=∃ks vs,d=.dct (.non::ks) vs/\D.immL vs=true/\ks.length=vs.length/\ks.length<=W.length/\∀c,wv3 (ck c) ks vs=(wx3 W c).map D.int
def wz2.nil:wz2 (.dct [.non] []) []:=⟨[],[],rfl,rfl,rfl,Al0 _,λc=>by simp[wv3,xs9]⟩
def wz2.put{v:Int}(h:wz2 (.dct (.non::ks) vs) W):wz2 (.dct (.non::(wy8 (ck c0) (.int v) ks vs).1) (wy8 (ck c0) (.int v) ks vs).2) (W++[(c0,v)]):=by
 obtain⟨ks',vs',e,h1,h2,h3,h4⟩:=h;cases e;refine⟨_,_,rfl,yj7 imm_int h1,(yg4 h2).1,by have:=(yg4 (k:=ck c0) (v:=.int v) h2).2;simp;omega,λc=>?_⟩;rw[wc7 h2,yn6,h4 c];by_cases e:c0=c
 ·subst e;simp
 ·have e':ck c0≠ck c:=λz=>e (wf9 z)
  simp[e,e']
def wz2.flat(h:wz2 d W):d.flat=true:=by
 obtain⟨ks,vs,rfl,h1,_⟩:=h;exact h1
def wr(ts:List Tr):List (ww1×Int):=ts.zipIdx.flatMap λp=>p.1.cells.map λc=>(c,(p.2:Int))
def yy9:wr (ts++[u])=wr ts++u.cells.map λc=>(c,(ts.length:Int)):=by
 unfold wr;rw[List.zipIdx_append,List.flatMap_append];simp
def vb9(sh:List ww1)(ts:List Tr):List (ww1×Int):=(sh.map λc=>(c,-1))++wr ts
def xn6(h:∀t∈ts,c∉t.cells):wx3 (wr ts) c=none:=by
 apply xm4;rintro ⟨q,v⟩ hq;unfold wr at hq;obtain⟨⟨t,i⟩,h1,h2⟩:=List.mem_flatMap.mp hq;obtain⟨q',h3,h4⟩:=Bo0.mp h2;have ht:t∈ts:=(List.mem_zipIdx h1).2.2▸List.getElem_mem _;intro e;cases h4;exact h t ht (by rw[<-show q=c from e];exact h3)
theorem wg9{m:Nat}(hm:ts[m]?=some t)(hc:c∈t.cells)(ap:ts.Pairwise λa b=>∀c∈a.cells,c∉b.cells):wx3 (wr ts) c=some (m:Int):=by
 induction ts using xa1 with
 | nil=>simp at hm
 | append_singleton ts u ih=>
   rw[yy9,zp1,zy1];obtain⟨a1,_,a3⟩:=Ca0.mp ap;by_cases h:m<ts.length
   ·rw[Aq0 h] at hm
    have hcu:c∉u.cells:=a3 t (Ai0 hm) u (by simp) c hc;rw[if_neg hcu];simp only[Option.none_or];exact ih hm a1
   ·have hml:m=ts.length:=by
     have:=(Ac0.mp hm).1;rw[An0] at this;simp at this;omega
    subst hml;rw[List.getElem?_append_right (Al0 _)] at hm;simp at hm;subst hm;rw[if_pos hc];rfl
def xw8{A4 A5:Int}(ho:zd7 A4 A5 sh ts){m:Nat}(hm:ts[m]?=some t)(hc:c∈t.cells):wx3 (vb9 sh ts) c=some (m:Int):=by
 unfold vb9;rw[zp1,wg9 hm hc ho.apart];rfl
def wu6{A4 A5:Int}(ho:zd7 A4 A5 sh ts)(hc:c∈sh):wx3 (vb9 sh ts) c=some (-1):=by
 unfold vb9;rw[zp1,xn6 λt ht h=>(ho.tr t ht).free c h hc,zy1,if_pos hc];rfl
def wu7(h1:c∉sh)(h2:∀t∈ts,c∉t.cells):wx3 (vb9 sh ts) c=none:=by
 unfold vb9;rw[zp1,xn6 h2,zy1,if_neg h1];rfl
def yq9:List D->Res Unit D:=dfn 7 2 (yj8 vg5).1
def vw8{A4 A5:Int}:oIx (wu9 A4 A5 sh ts) (.int 2)=some (.tup (sh.map wu8)):=by
 show im (some (D.tup (sh.map wu8)))=_;simp[im,imm_tup,zb5 ze4 sh]
def hall3'{A4 A5:Int}:oIx (wu9 A4 A5 sh ts) (.int 3)=some (.tup (ts.map Tr.kind)):=by
 show im (some (D.tup (ts.map Tr.kind)))=_;simp[im,imm_tup,zb5 zm6 ts]
theorem wm8(h:∀t∈ts,t.cells.length<=81):(wr ts).length<=81*ts.length:=by
 induction ts using xa1 with
 | nil=>simp[wr]
 | append_singleton ts u ih=>
   rw[yy9,An0,Aa0,An0];have h1:=ih λt ht=>h t (by simp[ht])
   have h2:=h u (by simp);simp only[Au0,List.length_nil];omega
def xj9{A4 A5:Int}(hc:Cfg A4 A5 sh ts)(hq:∀d,wz2 d (vb9 sh ts)->Q d ()):wpR (yq9 [wu9 A4 A5 sh ts,za6 ts]) Q E:=by
 refine zg3 rfl (by decide) ?_;unfold yj8;dsimp only;have h81:∀t∈ts,t.cells.length<=81:=λt ht=>yk7 (hc.wh t ht).2.1 (hc.wh t ht).2.2.2
 have few:=hc.few;have shl:=hc.sh;simp_all!;simp!;simp_all!;simp! [vw8];refine zk0 (λi ρ st'=>∃(d:D) (x3 x4 x5 x6:Sl),ρ=[Sl.bor (wu9 A4 A5 sh ts),.bor (za6 ts),.own d,x3,x4,x5,x6]/\wz2 d ((sh.take i).map λc=>(c,-1))) 0 ⟨_,_,_,_,_,rfl,wz2.nil⟩ (λi e ρ st' he hI P pn=>?_) λρ st' hI=>?_
 ·obtain⟨d,x3,x4,x5,x6,er,hd⟩:=hI
  rw[Ag0] at he;cases q:sh[i]? with
  | none=>rw[q] at he;cases he
  | some c=>
    rw[q] at he;cases he;subst er;rw[Ah0] at hd;obtain⟨ks,vs,rfl,k1,k2,k3,k4⟩:=id hd;rw[Aa0,Bf0] at k3;refine⟨_,rfl,?_⟩;simp! [va7,k1,zv0];refine⟨ks,vs,rfl,xg6 (by omega),pn _ _ ⟨_,_,_,_,_,rfl,?_⟩⟩;rw[Ah0];have:=hd.put (c0:=c) (v:=-1);rwa [show (sh.take i).map (λc=>(c,(-1:Int)))++[(c,-1)]=(sh.take (i+1)).map λc=>(c,(-1:Int)) by rw[Ba0,q,Aw0];rfl] at this
 ·obtain⟨d,x3,x4,x5,x6,er,hd⟩:=hI
  subst er;rw[Ah0,Aa0,Be0] at hd;simp!;simp_all!;have en:vl5 [.tup (ts.map Tr.kind)]=some (zw7 (ts.map Tr.kind)):=if_pos (zb5 zm6 ts);simp! [hall3',en];refine zk0 (λi ρ st'=>∃(d:D) (x3 x4 x5 x6:Sl),ρ=[Sl.bor (wu9 A4 A5 sh ts),.bor (za6 ts),.own d,x3,x4,x5,x6]/\wz2 d (vb9 sh (ts.take i))) 0 ⟨_,_,_,_,_,rfl,by unfold vb9 wr;simpa using hd⟩ (λi e ρ st' he hI P pn=>?_) λρ st' hI=>?_
  ·obtain⟨d,x3,x4,x5,x6,er,hd⟩:=hI
   obtain⟨kk,hk,rfl⟩:=yd9 he;rw[Ag0] at hk;cases q:ts[i]? with
   | none=>rw[q] at hk;cases hk
   | some t=>
     rw[q] at hk;cases hk;subst er;rw[Ah0] at hd;obtain⟨q1,q2,q3,q4⟩:=hc.wh t (Ai0 q);have hil:i<ts.length:=(Ac0.mp q).1;refine⟨_,rfl,?_⟩;simp! [za6,zj4 q];refine xo1 (p:=(t.x,t.y)) (by omega) (by omega) q1 q3 ?_;have hcu:cov t.w t.h (t.x,t.y)=t.cells:=rfl;rw[hcu];simp!;refine zk0 (λj ρ st'=>∃(d:D) (x3 x6:Sl),ρ=[Sl.bor (wu9 A4 A5 sh ts),.bor (za6 ts),.own d,x3,.bor (.int i),.bor t.kind,x6]/\wz2 d (vb9 sh (ts.take i)++(t.cells.take j).map λc=>(c,(i:Int)))) 0 ⟨_,_,_,rfl,by simpa using hd⟩ (λj e ρ st' he hI P2 pn2=>?_) λρ st' hI=>?_
     ·obtain⟨d,x3,x6,er,hd⟩:=hI
      rw[Ag0] at he;cases q5:t.cells[j]? with
      | none=>rw[q5] at he;cases he
      | some c=>
        rw[q5] at he;cases he;subst er;rw[Ah0] at hd;obtain⟨ks,vs,rfl,k1,k2,k3,k4⟩:=id hd;have w1:=wm8 (ts:=ts.take i) λt ht=>h81 t (List.mem_of_mem_take ht)
        have w2:=h81 t (Ai0 q);have kl:ks.length<=3000:=by
         unfold vb9 at k3;rw[An0,An0,Aa0,Aa0,Bf0] at k3;rw[Bf0] at w1;omega
        refine⟨_,rfl,?_⟩;simp! [va7,k1,zv0];refine⟨ks,vs,rfl,xg6 (by omega),pn2 _ _ ⟨_,_,_,rfl,?_⟩⟩;rw[Ah0];have:=hd.put (c0:=c) (v:=i);rwa [show vb9 sh (ts.take i)++(t.cells.take j).map (λc=>(c,(i:Int)))++[(c,(i:Int))]=vb9 sh (ts.take i)++(t.cells.take (j+1)).map λc=>(c,(i:Int)) by rw[Ba0,q5,Aw0,Cb0];rfl] at this
     ·obtain⟨d,x3,x6,er,hd⟩:=hI
      subst er;rw[Ah0,Aa0,Be0] at hd;refine pn _ _ ⟨d,_,_,_,_,rfl,?_⟩;rw[Ah0];have e1:vb9 sh (ts.take (i+1))=vb9 sh (ts.take i)++t.cells.map λc=>(c,(i:Int)):=by
       unfold vb9;rw[Ba0,q];show _++wr (ts.take i++[t])=_;rw[yy9,Bf0,Nat.min_eq_left (by omega),Cb0]
      rw[e1];exact hd
  ·obtain⟨d,x3,x4,x5,x6,er,hd⟩:=hI
   subst er;rw[Ah0,zu5,Aa0,Be0] at hd;simp! [hd.flat];exact hq d hd
def xq9:List D->Res Unit D:=dfn 2 2 xu1.1
def xx6{ways:Str}{d:Int}(hw:vd2 ways)(hd:Dir d)(hq:Q (.bl (wz1 ways d)) ()):wpR (xq9 [.str ways,.int d]) Q E:=by
 refine zg3 rfl (by decide) ?_;unfold xu1;dsimp only;have i2:∀{d:Int},iOp (λ_ j=>0<j) (λi j=>D.int (i % j)) (.int d) (.int 2)=some (.int (d % 2)):=λ{d}=>yw9 (C:=λ_ j=>0<j) (by decide)
 rw  [zb0];simp! [yi2,zi9,i2];rcases hw with r | r | r | r<;>subst r
 ·rw  [zb0]
  simp! [yi2];exact hq
 ·rcases hd.cases with r | r | r | r<;>subst r<;>exact hq
 ·rw  [zb0]
  simp! [yi2,zi9,i2];rcases hd.cases with r | r | r | r<;>subst r<;>exact hq
 ·rw  [zb0]
  simp! [yi2];rcases hd.cases with r | r | r | r<;>subst r<;>exact hq
def ya9:List D->Res Unit D:=dfn 4 2 zs2.1
def yl6{d:Int}(hd:Dir d)(hq:Q (wu8 (p.1+dx d,p.2+dy d)) ()):wpR (ya9 [wu8 p,.int d]) Q E:=by
 refine zg3 rfl (by decide) ?_;unfold zs2;dsimp only;rw  [zb0];simp!;rcases hd.cases with r | r | r | r<;>subst r<;>refine⟨_,_,rfl,by decide,rfl,?_⟩<;>simp?! [wu8,oIx,pt0,pt1,ww9,wx7,wz9]<;>exact hq
def zn1{A4 A5:Int}(ho:zd7 A4 A5 sh ts):Cfg A4 A5 sh ts where
 few:=ho.few
 sh:=Av0 ho.sub.length_le (yk7 ho.w9 ho.h9)
 wh:=λt ht=>by
  have to:=ho.tr t ht;have:=to.w1;have:=to.h1;have:=to.xw;have:=to.yh;have:=to.x0;have:=to.y0;have:=ho.w9;have:=ho.h9;exact⟨by omega,by omega,by omega,by omega⟩
def yp8:List D->Res Unit D:=dfn 3 3 yp3.1
def xj7{w h:Int}(hq:Q (.bl (zl4 w h c)) ()):wpR (yp8 [.int w,.int h,wu8 c]) Q E:=by
 refine zg3 rfl (by decide) ?_;unfold yp3;dsimp only;simp! [wu8,oIx,pt0,pt1,wx7];unfold zl4 at hq;by_cases h1:0<=c.1<;>by_cases h2:c.1<w<;>by_cases h3:0<=c.2<;>by_cases h4:c.2<h<;>simp[h1,h2,h3,h4,D.imm] at hq ⊢<;>exact hq
def yn9{w h:Int}:zl4 w h c=true↔0<=c.1/\c.1<w/\0<=c.2/\c.2<h:=by
 simp[zl4];omega
def xh8{n:Int}(h4:∀c,wv3 (ck c) ks vs=(wx3 W c).map D.int):ve1 (.dct (.non::ks) vs) (wu8 c) (.int n)=some (.int ((wx3 W c).getD n)):=by
 show im (some ((wv3 (ck c) ks vs).getD (.int n)))=_;rw[h4 c];cases wx3 W c<;>rfl
def wb8{A4 A5:Int}(ho:zd7 A4 A5 sh ts){n:Nat}(hc:c∉sh):∃v:Nat,(wx3 (vb9 sh ts) c).getD (n:Int)=(v:Int)/\(v=n\/∃u,ts[v]?=some u/\c∈u.cells)/\∀m u,ts[m]?=some u->c∈u.cells->m=v:=by
 by_cases h:∃(m:Nat) (u:Tr),ts[m]?=some u/\c∈u.cells
 ·obtain⟨m,u,h1,h2⟩:=h
  refine⟨m,by rw[xw8 ho h1 h2];rfl,.inr ⟨u,h1,h2⟩,λm' u' h3 h4=>?_⟩;have e:=(xw8 ho h1 h2).symm.trans (xw8 ho h3 h4);have:=Option.some.inj e;omega
 ·have hno:∀t∈ts,c∉t.cells:=λt ht hc'=>by
   obtain⟨m,hm⟩:=Bj0 ht;exact h ⟨m,t,hm,hc'⟩
  exact⟨n,by rw[wu7 hc hno];rfl,.inl rfl,λm u h1 h2=>absurd ⟨m,u,h1,h2⟩ h⟩
def vv7:List D->Res Unit D:=dfn 9 5 (yq7 xq9 vg5 ya9 yp8).1
def wn1{A4 A5:Int}{n:Nat}{d:Int}(ho:zd7 A4 A5 sh ts)(hn:ts[n]?=some t)(hd:Dir d)(hh:wz2 dd (vb9 sh ts))(hN:¬okT A4 A5 sh t d->Q .non ())(hL:∀g:List Nat,okT A4 A5 sh t d->g.Nodup->(∀m,m∈g↔m≠n/\∃u,ts[m]?=some u/\hit t u d)->Q (.lst (wv4 g)) ()):wpR (vv7 [wu9 A4 A5 sh ts,za6 ts,dd,.int n,.int d]) Q E:=by
 refine zg3 rfl (by decide) ?_;unfold yq7;dsimp only;obtain⟨ks,vs,rfl,k1,k2,k3,k4⟩:=hh;have hc:=zn1 ho;obtain⟨q1,q2,q3,q4⟩:=hc.wh t (Ai0 hn);have kw:∀t:Tr,oIx t.kind (.int 2)=some (.str t.ways):=λt=>rfl
 have h0:oIx (wu9 A4 A5 sh ts) (.int 0)=some (.int A4):=rfl;have h1:oIx (wu9 A4 A5 sh ts) (.int 1)=some (.int A5):=rfl;have few:=hc.few;simp_all!;simp! [hall3',zs6 hn];simp_all!;simp! [kw];refine xx6 (ho.tr t (Ai0 hn)).ways hd ?_;by_cases hgo:wz1 t.ways d=true
 ·rw[hgo]
  simp!;simp_all!;simp! [va0];rw  [zb0];simp! [za6,zj4 hn];refine yl6 (p:=(t.x,t.y)) hd ?_;refine xo1 (p:=((t.x,t.y).1+dx d,(t.x,t.y).2+dy d)) (by omega) (by omega) q1 q3 ?_;have ha:cov t.w t.h ((t.x,t.y).1+dx d,(t.x,t.y).2+dy d)=t.ahead d:=rfl;rw[ha];have ha81:(t.ahead d).length<=81:=yk7 q2 q4;simp!;refine yg7 (λi ρ st'=>∃(g:List Nat) (x7 x8:Sl),ρ=[Sl.bor (wu9 A4 A5 sh ts),.bor (za6 ts),.bor (.dct (.non::ks) vs),.bor (.int n),.bor (.int d),.bor t.kind,.own (.lst (wv4 g)),x7,x8]/\g.Nodup/\(∀m∈g,m≠n/\∃u,ts[m]?=some u/\hit t u d)/\∀c∈(t.ahead d).take i,(c∉sh/\0<=c.1/\c.1<A4/\0<=c.2/\c.2<A5)/\∀m u,ts[m]?=some u->c∈u.cells->m≠n->m∈g) 0 ⟨[],_,_,rfl,List.nodup_nil,λm hm=>absurd hm (by simp),λc hc=>absurd hc (by simp)⟩ (λi e ρ st' he hI P pn pr=>?_) λρ st' hI=>?_
  ·obtain⟨g,x7,x8,er,nd,hg,B7⟩:=hI
   rw[Ag0] at he;cases q:(t.ahead d)[i]? with
   | none=>rw[q] at he;cases he
   | some c=>
     rw[q] at he;cases he;subst er;rw[Ah0] at B7;have hca:=Ai0 q;have hgl:g.length<=ts.length:=zp0 _ g nd λm hm=>by
      obtain⟨_,u,hu,_⟩:=hg m hm;exact(Ac0.mp hu).1
     refine⟨_,rfl,?_⟩;simp_all!;simp! [xh8 k4];refine⟨ks,vs,rfl,?_⟩;simp! [xh8 k4];simp_all!;simp! [zi9];by_cases hsh:c∈sh
     ·rw[wu6 ho hsh]
      simp! [Option.getD_some,Ak1];exact pr _ _ (hN λok=>(ok.2 c hca).1 hsh)
     ·obtain⟨v,ev,hv1,hv2⟩:=wb8 ho (c:=c) (n:=n) hsh
      rw[ev];have v1:(((v:Nat):Int) == -1)=false:=by rw[beq_eq_false_iff_ne];omega
      rw[v1];simp! [h0,h1];refine xj7 ?_;by_cases hin:zl4 A4 A5 c=true
      ·rw[hin]
       have hin':=yn9.mp hin;simp!;have on:∀g:List Nat,wv4 g=g.map λj:Nat=>D.int j:=λ_=>rfl
       have keep:∀g':List Nat,(∀m∈g,m∈g')->(v≠n->v∈g')->∀c∈(t.ahead d).take (i+1),(c∉sh/\0<=c.1/\c.1<A4/\0<=c.2/\c.2<A5)/\∀m u,ts[m]?=some u->c∈u.cells->m≠n->m∈g':=λg' hs hv c' hc'=>by
        rw[Ba0,q] at hc';rcases Ay0.mp hc' with h | h
        ·exact⟨(B7 c' h).1,λm u e1 e2 e3=>hs m ((B7 c' h).2 m u e1 e2 e3)⟩
        ·have h:c'=c:=by simpa using h
         subst h;refine⟨⟨hsh,hin'⟩,λm u e1 e2 e3=>?_⟩;have:=hv2 m u e1 e2;subst this;exact hv e3
       simp only[zi9,on,yq3];by_cases hvn:v=n
       ·have:(((v:Nat):Int) == ((n:Nat):Int))=true:=by rw[hvn];exact Ak1 _
        rw[this];simp!;exact pn _ _ ⟨g,_,_,rfl,nd,hg,by rw[Ah0];exact keep g (λm h=>h) λh=>absurd hvn h⟩
       ·have:(((v:Nat):Int) == ((n:Nat):Int))=false:=by rw[beq_eq_false_iff_ne];omega
        rw[this];simp!;by_cases hvg:v∈g
        ·rw[Aj1 hvg]
         simp!;exact pn _ _ ⟨g,_,_,rfl,nd,hg,by rw[Ah0];exact keep g (λm h=>h) λ_=>hvg⟩
        ·rw[Ai1 hvg]
         have im':D.immL (g.map λj:Nat=>D.int j)=true:=zj0 g;simp! [ww2,im'];refine⟨_,zx9 imm_int (by rw[Aa0];omega),pn _ _ ⟨g++[v],.bor (wu8 c),.bor (.int v),?_,?_,?_,by rw[Ah0];exact keep _ (λm h=>Bd0 _ h) λ_=>by simp⟩⟩
         ·unfold wv4
          rw[Aw0];rfl
         ·rw[List.nodup_append]
          refine⟨nd,by simp,λa ha b hb e=>?_⟩;rw[Ae0.mp hb] at e;subst e;exact hvg ha
         ·intro m hm
          rcases Ay0.mp hm with h | h
          ·exact hg m h
          ·rw[Ae0.mp h]
           refine⟨hvn,?_⟩;rcases hv1 with h | ⟨u,e1,e2⟩
           ·exact absurd h hvn
           ·exact⟨u,e1,c,e2,hca⟩
      ·have hin2:zl4 A4 A5 c=false:=by simpa using hin
       rw[hin2];simp!;exact pr _ _ (hN λok=>hin (yn9.mpr (ok.2 c hca).2))
  ·obtain⟨g,x7,x8,er,nd,hg,B7⟩:=hI
   subst er;rw[Ah0,Aa0,Be0] at B7;have im':D.immL (wv4 g)=true:=zj0 g;simp! [im'];refine hL g ⟨hgo,λc hc'=>(B7 c hc').1⟩ nd λm=>⟨hg m,λ⟨h1,u,h2,c,h3,h4⟩=>(B7 c h4).2 m u h2 h3 h1⟩
 ·have hgo':wz1 t.ways d=false:=by simpa using hgo
  rw[hgo'];simp!;exact hN λok=>hgo ok.1
def xw6:List D->Res Unit D:=dfn 9 5 (zp9 vv7).1
def muA(ρ:Rho):Nat:=match (ρ[7]?:Option Sl) with
 | some (Sl.bor (D.int a))=>20-a.toNat
 | _=>0
def xj8{g h:List Nat}(hl:h.length<=1000)(hq:Q (wv4 (h.filter λk=>decide (k∉g))) ()) :
 wpR (wy9 Unit (gN 0) (tP Unit (tb (o2 (oIn true) (vr 0) (vr 1)))) (fP Unit (vr 0)) (wv4 h) [] [x,.bor (.lst (wv4 g))] ()) Q E:=by
 refine zr2 (λn acc ρ st'=>acc=wv4 ((h.take n).filter λk=>decide (k∉g))/\∃x,ρ=[x,.bor (.lst (wv4 g))]) 0 ⟨rfl,_,rfl⟩ (λi d acc ρ st' hd hI147=>?_) λacc ρ st' hI146=>?_
 ·obtain⟨e1,x,er⟩:=hI147
  unfold wv4 at hd;rw[Ag0] at hd;cases q:h[i]? with
  | none=>rw[q] at hd;cases hd
  | some k=>
    rw[q] at hd;cases hd;subst er;rw[Ah0] at e1;have on:∀g:List Nat,wv4 g=g.map λj:Nat=>D.int j:=λ_=>rfl
    refine⟨_,rfl,?_⟩;simp! [on,yq3];have ht:(h.take (i+1)).filter (λk=>decide (k∉g))=(h.take i).filter (λk=>decide (k∉g))++[k].filter λk=>decide (k∉g):=by
     rw[Ba0,q,List.filter_append];rfl
    by_cases hk:k∈g
    ·rw[Aj1 hk]
     simp!;refine⟨?_,_,rfl⟩;rw[ht,e1];simp[hk,wv4]
    ·rw[Ai1 hk]
     simp!;refine⟨xg6 ?_,?_,_,rfl⟩
     ·rw[e1];unfold wv4
      rw[Aa0];have:=List.length_filter_le (λk=>decide (k∉g)) (h.take i);rw[Bf0] at this;omega
     ·rw[ht,e1]
      simp[hk,wv4]
 ·obtain⟨e1,x,er⟩:=hI146
  unfold wv4 at e1;rw[Ah0,Aa0,Be0] at e1;rw[e1];exact hq
theorem wa8{neg:Bool}{g:List Nat}:oEq neg (.lst (wv4 g)) (.lst [])=some (.bl (if neg then !decide (g=[]) else decide (g=[]))):=by
 have hd:D.depL (wv4 g)<=0:=zm7 (n:=0) (λa=>by simp[D.dep]) g;cases g with
 | nil=>simp[oEq,wv4,D.eqq,D.eqL,D.dep,D.depL]
 | cons a g=>
   have hd':D.depL (wv4 (a::g))<=29:=Av0 hd (by decide);simp only[oEq,D.dep,Nat.reduceSubDiff];simp[wv4,D.eqq,D.eqL,D.dep,D.depL] at hd' ⊢;omega
def xy1{A4 A5:Int}{n:Nat}{d:Int}(ho:zd7 A4 A5 sh ts)(hn:ts[n]?=some t0)(hd:Dir d)(hh:wz2 dd (vb9 sh ts))(hN:zr1 A4 A5 sh ts d n t0->Q .non ())(hL:∀g:List Nat,wx9 A4 A5 sh ts d n g->Q (.tup (wv4 g)) ()):wpR (xw6 [wu9 A4 A5 sh ts,za6 ts,dd,.int n,.int d]) Q E:=by
 refine zg3 rfl (by decide) ?_;unfold zp9;dsimp only;have hc:=zn1 ho;have few:=hc.few;have ks:∀t:Tr,oIx t.kind (.int 3)=some (.int t.s):=λt=>rfl
 have hf:=hh.flat;have hst:=(ho.tr t0 (Ai0 hn)).st;simp_all!;simp! [hall3',zs6 hn,ks];simp_all!;simp! [zi9];by_cases hs:t0.s=-1
 ·have hs':(t0.s == -1)=true:=by rw[hs];rfl
  rw[hs'];simp!;exact hN (.inl (by omega))
 ·have hs':(t0.s == -1)=false:=by rw[beq_eq_false_iff_ne];exact hs
  rw[hs'];simp!;simp_all!;simp! [zi8];simp_all!;simp!;rw  [zb0];refine ys7 (λρ st=>∃(g:List Nat) (at':Nat) (x8:Sl),ρ=[Sl.bor (wu9 A4 A5 sh ts),.bor (za6 ts),.bor dd,.bor (.int n),.bor (.int d),.bor (.int t0.s),.own (.lst (wv4 g)),.bor (.int at'),x8]/\g.Nodup/\(∀m∈g,m<ts.length/\va2 ts d n m)/\n∈g/\at'<=g.length/\(t0.s=0->∀m∈g,m=n)/\(∀j m t,j<at'->g[j]?=some m->ts[m]?=some t->okT A4 A5 sh t d/\∀k u,ts[k]?=some u->hit t u d->k∈g)) (λρ _=>muA ρ) ⟨[n],0,_,rfl,by simp,λm hm=>?_,by simp,by simp,λ_ m hm=>Ae0.mp hm,λj m t hj=>absurd hj (Nat.not_lt_zero _)⟩ ?_
  ·rw[Ae0.mp hm]
   exact⟨(Ac0.mp hn).1,.self⟩
  ·intro ρ st hI P Z pn pr pz
   obtain⟨g,at',x8,rfl,nd,hg,hng,hat,hz,B7⟩:=hI;have hgl:g.length<=ts.length:=zp0 _ g nd λm hm=>(hg m hm).1
   have gl:(wv4 g).length=g.length:=by unfold wv4;rw[Aa0]
   have im':∀g:List Nat,D.immL (wv4 g)=true:=zj0;simp! [va9,wx7,gl];by_cases hlt:at' < g.length
   ·rw[Aj1 (show ((at':Nat):Int)<(g.length:Int) by omega),if_pos rfl]
    obtain⟨m,hm⟩:∃m,g[at']?=some m:=⟨_,Ad0 hlt⟩;have hmg:=Ai0 hm;obtain⟨hmN,hmR⟩:=hg m hmg;obtain⟨t,ht⟩:∃t,ts[m]?=some t:=⟨_,Ad0 hmN⟩;simp_all!;simp! [xf7 hm];refine wn1 ho ht hd hh (λhno=>?_) λh hok hnd hmem=>?_
    ·simp!
     simp_all!;simp! [va5,D.isNon];exact pr _ _ (hN (.inr (.inl ⟨m,t,hmR,ht,hno⟩)))
    ·have hlN:∀k∈h,k<ts.length/\va2 ts d n k:=λk hk=>by
      obtain⟨_,u,e1,e2⟩:=(hmem k).mp hk;exact⟨(Ac0.mp e1).1,.more hmR ht e1 e2⟩
     have hhl:h.length<=ts.length:=zp0 _ h hnd λk hk=>(hlN k hk).1
     simp! [im'];simp_all!;simp! [va5,D.isNon,va0,wa8,zi9];have go:(t0.s=0->h=[])->wpR (vk4 Unit (sMt Unit 6 vr3 (vf2 Unit [8] [none,some 6] (vh9 Unit D.seq? (fVk Unit 8)) (gN 0) (tP Unit (tb (o2 (oIn true) (vr 0) (vr 1)))) (fP Unit (vr 0)))) (vo0 Unit 7 (fP Unit (cn (D.int 1))) λi j=>i+j) [Sl.bor (wu9 A4 A5 sh ts),.bor (za6 ts),.bor dd,.bor (.int n),.bor (.int d),.bor (.int t0.s),.own (.lst (wv4 g)),.bor (.int at'),.own (.lst (wv4 h))] ()) P E:=λhz0=>by
      rw  [zb0];simp! [im',ww2];refine xj8 (by omega) ?_;have hfl:∀k∈h.filter (λk=>decide (k∉g)),k∈h/\k∉g:=λk hk=>by simpa using hk
      have hall:∀k∈h,k∈g++h.filter λk=>decide (k∉g):=λk hk=>by
       by_cases e:k∈g
       ·exact Bd0 _ e
       ·exact Am0 _ (by simp[hk,e])
      have hnl:(h.filter λk=>decide (k∉g)).length<=h.length:=List.length_filter_le _ _;have hnd':(h.filter λk=>decide (k∉g)).Nodup:=hnd.filter _;have hz1:t0.s=0->h.filter (λk=>decide (k∉g))=[]:=λe=>by rw[hz0 e];rfl
      generalize h.filter (λk=>decide (k∉g))=r at hfl hall hnl hnd' hz1;have rl:(wv4 r).length=r.length:=by unfold wv4;rw[Aa0]
      refine⟨_,xa9 (zj0 r) (by omega),?_⟩;refine⟨_,_,rfl,rfl,pn _ _ ⟨g++r,at' + 1,.own (.lst (wv4 h)),?_,?_,?_,Bd0 _ hng,?_,?_,?_⟩ ?_⟩
      ·unfold wv4;rw[Aw0];rfl
      ·rw[List.nodup_append]
       exact⟨nd,hnd',λa ha b hb e=>by subst e;exact(hfl _ hb).2 ha⟩
      ·intro m' hm'
       rcases Ay0.mp hm' with e | e
       ·exact hg m' e
       ·exact hlN m' (hfl m' e).1
      ·rw[An0];omega
      ·intro e m' hm'
       rw[hz1 e,Az0] at hm';exact hz e m' hm'
      ·intro j m' t' hj hm' ht'
       by_cases h5:j=at'
       ·subst h5
        rw[Aq0 hlt,hm] at hm';cases hm';rw[ht] at ht';cases ht';refine⟨hok,λk u e1 e2=>?_⟩;by_cases e:k=m
        ·subst e;exact Bd0 _ hmg
        ·exact hall k ((hmem k).mpr ⟨e,u,e1,e2⟩)
       ·rw[Aq0 (by omega)] at hm'
        obtain⟨z1,z2⟩:=B7 j m' t' (by omega) hm' ht';exact⟨z1,λk u e1 e2=>Bd0 _ (z2 k u e1 e2)⟩
      ·show 20-((at':Int)+1).toNat<20-at'
       omega
     by_cases hh0:h=[]
     ·rw[Aj1 hh0]
      simp!;exact go λ_=>hh0
     ·rw[Ai1 hh0]
      simp!;by_cases h1:t0.s=1
      ·have h1':(t0.s == 1)=true:=by rw[h1];rfl
       rw[h1'];simp!;exact go λe=>absurd e (by omega)
      ·have h1':(t0.s == 1)=false:=by rw[beq_eq_false_iff_ne];exact h1
       rw[h1'];simp!;refine pr _ _ (hN (.inr (.inr ⟨by omega,?_⟩)));obtain⟨k,hk⟩:=List.exists_mem_of_ne_nil h hh0;by_cases e:k=n
       ·refine⟨m,λe'=>((hmem k).mp hk).1 (e.trans e'.symm),hmR⟩
       ·exact⟨k,e,(hlN k hk).2⟩
   ·rw[Ai1 (show ¬((at':Nat):Int)<(g.length:Int) by omega)]
    simp!;refine pz _ ?_;have hall:∀m,m∈g↔va2 ts d n m:=λm=>⟨λh=>(hg m h).2,λh=>by
     induction h with
     | self=>exact hng
     | more h1 h2 h3 h4 ih=>
       obtain⟨j,hj⟩:=Bj0 ih;have hjl:j<g.length:=(Ac0.mp hj).1;exact(B7 j _ _ (by omega) hj h2).2 _ _ h3 h4⟩
    have hokg:∀m∈g,∀t,ts[m]?=some t->okT A4 A5 sh t d:=λm hm t ht=>by
     obtain⟨j,hj⟩:=Bj0 hm;have hjl:j<g.length:=(Ac0.mp hj).1;exact(B7 j m t (by omega) hj ht).1
    obtain⟨g',e1,e2,e3⟩:=yt7 g;have os:yi1 [.lst (wv4 g)]=some (.lst (wv4 g')):=by
     show (zv1 (wv4 g)).bind (λns=>if ns.length<64 then some (D.lst ((sortI ns).map D.int)) else none)=_;rw[yj4];show (if (g.map λj:Nat=>(j:Int)).length<64 then some (D.lst ((sortI (g.map λj:Nat=>(j:Int))).map D.int)) else none)=_;rw[if_pos (by rw[Aa0];omega),e1]
    simp! [os,yd8,zj0];exact hL g' ⟨e2.symm.nodup nd,e3,λm=>by rw[e2.mem_iff];exact hall m,λm hm=>(hg m (e2.mem_iff.mp hm)).1,λm hm=>hokg m (e2.mem_iff.mp hm),λt ht=>by
     rw[hn] at ht;cases ht;exact⟨by omega,λz m hm=>hz z m (e2.mem_iff.mp hm)⟩⟩
def yq6:List D->Res Unit D:=dfn 4 4 (yq5 xw6 yq9).1
def xo2{A4 A5:Int}{n:Nat}{d:Int}(ho:zd7 A4 A5 sh ts)(hn:ts[n]?=some t0)(hd:Dir d)(hN:zr1 A4 A5 sh ts d n t0->Q .non ())(hL:∀g:List Nat,wx9 A4 A5 sh ts d n g->Q (.tup (wv4 g)) ()):wpR (yq6 [wu9 A4 A5 sh ts,za6 ts,.int n,.int d]) Q E:=by
 refine zg3 rfl (by decide) ?_;unfold yq5;dsimp only;have hc:=zn1 ho;simp!;refine xj9 hc λdd hdd=>?_
 refine xy1 ho hn hd hdd (λh=>?_) λg h=>?_
 ·exact⟨.inl imm_non,hN h⟩
 ·exact⟨.inl (zj0 g),hL g h⟩
def xe2{t:Tr}{d:Int}:(t.to d).cells=t.ahead d:=rfl
def yl1{t:Tr}{d:Int}{c:ww1}:c∈t.ahead d↔(c.1-dx d,c.2-dy d)∈t.cells:=by
 unfold Tr.ahead Tr.cells;rw[yc4,yc4];simp only;omega
def zd7.moved{A4 A5:Int}{sh:List ww1}{ts:List Tr}{g:List Nat}{d:Int}{n:Nat}(ho:zd7 A4 A5 sh ts)(hg:wx9 A4 A5 sh ts d n g):zd7 A4 A5 sh (ze8 ts g d) where
 w1:=ho.w1
 w9:=ho.w9
 h1:=ho.h1
 h9:=ho.h9
 sub:=ho.sub
 few:=by rw[zh2];exact ho.few
 tr:=λt ht=>by
  obtain⟨i,hi⟩:=Bj0 ht;rw[zd8] at hi;cases q:ts[i]? with
  | none=>rw[q] at hi;cases hi
  | some u=>
    rw[q] at hi;have hi:(if i∈g then u.to d else u)=t:=Option.some.inj hi;have hu:=ho.tr u (Ai0 q);by_cases hgi:i∈g
    ·rw[if_pos hgi] at hi
     subst hi;have ok:=(hg.ok i hgi u q).2;have w1:=hu.w1;have h1:=hu.h1;have m1:(u.x+dx d,u.y+dy d)∈u.ahead d:=by unfold Tr.ahead;rw[yc4];simp only;omega
     have m2:(u.x+dx d+u.w-1,u.y+dy d+u.h-1)∈u.ahead d:=by unfold Tr.ahead;rw[yc4];simp only;omega
     obtain⟨_,a1,_,a3,_⟩:=ok _ m1;obtain⟨_,_,b2,_,b4⟩:=ok _ m2;simp only at a1 a3 b2 b4;exact⟨w1,h1,a1,by show u.x+dx d+u.w<=A4;omega,a3,by show u.y+dy d+u.h<=A5;omega,hu.ways,hu.st,λc hc=>(ok c hc).1⟩
    ·rw[if_neg hgi] at hi
     subst hi;exact hu
 apart:=by
  have ap:=List.pairwise_iff_getElem.mp ho.apart;have two:∀i j (a b:Tr),ts[i]?=some a->ts[j]?=some b->i≠j->∀c∈a.cells,c∉b.cells:=λi j a b ha hb hij c h1 h2=>by
   obtain⟨hi,rfl⟩:=Ac0.mp ha;obtain⟨hj,rfl⟩:=Ac0.mp hb;rcases Nat.lt_or_gt_of_ne hij with h | h
   ·exact ap i j hi hj h c h1 h2
   ·exact ap j i hj hi h c h2 h1
  refine List.pairwise_iff_getElem.mpr λi j hi hj hij c h1 h2=>?_
  have li:i<ts.length:=by rw[zh2] at hi;exact hi
  have lj:j<ts.length:=by rw[zh2] at hj;exact hj
  have ei:(ze8 ts g d)[i]?=some ((ze8 ts g d)[i]):=Ad0 hi;have ej:(ze8 ts g d)[j]?=some ((ze8 ts g d)[j]):=Ad0 hj;have qi:ts[i]?=some ts[i]:=Ad0 li;have qj:ts[j]?=some ts[j]:=Ad0 lj;rw[zd8,qi] at ei;rw[zd8,qj] at ej;have ei:(if i∈g then ts[i].to d else ts[i])=(ze8 ts g d)[i]:=Option.some.inj ei;have ej:(if j∈g then ts[j].to d else ts[j])=(ze8 ts g d)[j]:=Option.some.inj ej;rw[<-ei] at h1;rw[<-ej] at h2;have hne:i≠j:=Ar0 hij;by_cases gi:i∈g<;>by_cases gj:j∈g<;>simp only[gi,gj,if_true,if_false,xe2] at h1 h2
  ·exact two i j _ _ qi qj hne _ (yl1.mp h1) (yl1.mp h2)
  ·exact gj ((hg.all j).mpr (.more ((hg.all i).mp gi) qi qj ⟨c,h2,h1⟩))
  ·exact gi ((hg.all i).mpr (.more ((hg.all j).mp gj) qj qi ⟨c,h1,h2⟩))
  ·exact two i j _ _ qi qj hne c h1 h2
theorem xd8:∀(a b:List Nat),a.Pairwise (· < ·)->b.Pairwise (· < ·)->(∀m,m∈a↔m∈b)->a=b
 | [],[],_,_,_=>rfl
 | [],y::b,_,_,h=>absurd ((h y).mpr (by simp)) (by simp)
 | x::a,[],_,_,h=>absurd ((h x).mp (by simp)) (by simp)
 | x::a,y::b,ha,hb,h=>by
   rw[List.pairwise_cons] at ha hb;have hxy:x=y:=by
    have h1:=(h x).mp (by simp);have h2:=(h y).mpr (by simp);rcases Aj0.mp h1 with e | e
    ·exact e
    ·rcases Aj0.mp h2 with e' | e'
     ·exact e'.symm
     ·have:=hb.1 x e
      have:=ha.1 y e';omega
   subst hxy;rw[xd8 a b ha.2 hb.2 λm=>⟨λhm=>?_,λhm=>?_⟩]
   ·have h1:=ha.1 m hm
    rcases Aj0.mp ((h m).mp (by simp[hm])) with e | e
    ·omega
    ·exact e
   ·have h1:=hb.1 m hm
    rcases Aj0.mp ((h m).mpr (by simp[hm])) with e | e
    ·omega
    ·exact e
def wx9.lt'{A4 A5:Int}{d:Int}{n:Nat}{g:List Nat}(h:wx9 A4 A5 sh ts d n g):g.Pairwise (· < ·):=by
 have:=List.Pairwise.and h.up h.nd;exact this.imp λ⟨a,b⟩=>Nat.lt_of_le_of_ne a b
def wx9.one{A4 A5:Int}{sh:List ww1}{ts:List Tr}{d:Int}{n:Nat}{g g':List Nat}(h:wx9 A4 A5 sh ts d n g)(h':wx9 A4 A5 sh ts d n g'):g=g':=
 xd8 g g' h.lt' h'.lt' λm=>(h.all m).trans (h'.all m).symm
def wx9.not{A4 A5:Int}{d:Int}{n:Nat}{g:List Nat}(h:wx9 A4 A5 sh ts d n g)(hn:ts[n]?=some t):¬zr1 A4 A5 sh ts d n t:=by
 rintro (h1 | ⟨m,t',h1,h2,h3⟩ | ⟨h1,m,h2,h3⟩)
 ·exact(h.str t hn).1 h1
 ·exact h3 (h.ok m ((h.all m).mpr h1) t' h2)
 ·exact h2 ((h.str t hn).2 h1 m ((h.all m).mpr h3))
def xf8(g:List Nat):D.depL (wv4 g)<=0:=zm7 (n:=0) (λa=>by simp[D.dep]) g
def wx9.len{A4 A5:Int}{d:Int}{n:Nat}{g:List Nat}(h:wx9 A4 A5 sh ts d n g):g.length<=ts.length:=zp0 _ g h.nd h.lt
theorem wj9{neg:Bool}(h:D.depL l<=29):oEq neg (.lst l) (.lst [])=some (.bl (if neg then !decide (l=[]) else decide (l=[]))):=by
 cases l with
 | nil=>simp[oEq,D.eqq,D.eqL,D.dep,D.depL]
 | cons a g=>
   have hd:(D.lst (a::g)).dep<=30:=by unfold D.dep;omega
   unfold oEq;rw[if_pos hd];have e:D.eqq (.lst (a::g)) (.lst [])=some false:=by simp[D.eqq,D.eqL]
   rw[e];cases neg<;>simp
def xj1:List D->Res Unit D:=dfn 5 3 (zs8 ya9).1
def xx9{g:List Nat}{d:Int}(hd:Dir d)(few:ts.length<=12)(hlt:∀k∈g,k<ts.length)(nd:g.Nodup)(hq:Q (za6 (ze8 ts g d)) ()):wpR (xj1 [za6 ts,.tup (wv4 g),.int d]) Q E:=by
 refine zg3 rfl (by decide) ?_;unfold zs8;dsimp only;simp_all!;simp! [za6,vg9,zb5 zg0];simp_all!;simp!;refine zk0 (λj ρ st'=>∃(x4:Sl),ρ=[Sl.bor (za6 ts),.bor (.tup (wv4 g)),.bor (.int d),.own (.lst ((ze8 ts (g.take j) d).map Tr.place)),x4]) 0 ⟨_,by rw[List.take_zero,yn4];rfl⟩ (λj e ρ st' he hI P pn=>?_) λρ st' hI=>?_
 ·obtain⟨x4,er⟩:=hI
  unfold wv4 at he;rw[Ag0] at he;cases q:g[j]? with
  | none=>rw[q] at he;cases he
  | some k=>
    rw[q] at he;cases he;subst er;rw[Ah0];have hkl:=hlt k (Ai0 q);obtain⟨u,hu⟩:∃u,ts[k]?=some u:=⟨_,Ad0 hkl⟩;have hpl:oIx (za6 ts) (.int k)=some u.place:=zj4 hu;refine⟨_,rfl,?_⟩;simp! [hpl];refine yl6 (p:=(u.x,u.y)) hd ?_;simp! [ww2,zb5 zg0];refine⟨k,k,rfl,?_,ze4 _,pn _ _ ⟨.bor (.int k),?_⟩⟩
    ·unfold ixN
     rw[if_pos (by omega),if_pos (by rw[Aa0,zh2];omega)];simp
    ·have e1:wu8 ((u.x,u.y).1+dx d,(u.x,u.y).2+dy d)=(u.to d).place:=rfl
     rw[e1,yn3 hu,Ah0,Ba0,q];rfl
 ·obtain⟨x4,er⟩:=hI
  subst er;have gl:(wv4 g).length=g.length:=by unfold wv4;rw[Aa0]
  rw[Ah0,gl,Be0];simp! [yd8,zb5 zg0];exact hq
section
variable{A4 A5:Int}{sh:List ww1}{d:Int}{n:Nat}{ts cur mid:List Tr}{k:Nat}
theorem wv1.det(h:wv1 A4 A5 sh d n ts k cur):∀{b:List Tr},wv1 A4 A5 sh d n ts k b->cur=b:=by
 induction h with
 | zero=>intro b hb;cases hb;rfl
 | succ _ hg ih=>
   intro b hb;cases hb with
   | succ h0 hg'=>
     have:=ih h0;subst this;rw[hg.one hg']
theorem wv1.pre(h:wv1 A4 A5 sh d n ts k cur):∀i,i<k->∃mid g,wv1 A4 A5 sh d n ts i mid/\wx9 A4 A5 sh mid d n g:=by
 induction h with
 | zero=>intro i hi;omega
 | @succ k mid g h0 hg ih=>
   intro i hi;by_cases h:i<k
   ·exact ih i h
   ·have:i=k:=by omega
    subst this;exact⟨mid,g,h0,hg⟩
theorem wv1.ok(h:wv1 A4 A5 sh d n ts k cur)(ho:zd7 A4 A5 sh ts):zd7 A4 A5 sh cur:=by
 induction h with
 | zero=>exact ho
 | succ _ hg ih=>exact ih.moved hg
end
def zc3:(za6 ts).imm=true:=by unfold za6;rw[imm_tup];exact zb5 zg0 _
def zz5:List D->Res Unit D:=dfn 9 3 (yf3 yq6 xj1).1
def yb6{i:Nat}(h:i<1000):((0:Int).natAbs.log2<1920)/\((i:Int).natAbs.log2<1920):=by
 refine⟨by decide,?_⟩;rw[Int.natAbs_natCast];by_cases z:i=0
 ·subst z;decide
 ·exact Ap0 ((Nat.log2_lt z).mpr (Nat.lt_trans h (by decide:1000<2 ^ 10))) (by decide)
def yt0{A4 A5:Int}{n k:Nat}{d:Int}(ho:zd7 A4 A5 sh ts)(hn:ts[n]?=some t0)(hd:Dir d)(hk9:k<=1000)(hN:∀(i:Nat) mid t1,i<k->wv1 A4 A5 sh d n ts i mid->mid[n]?=some t1->zr1 A4 A5 sh mid d n t1->E ⟨"Barred",[.int 0,.int i]⟩ ())(hq:∀cur,wv1 A4 A5 sh d n ts k cur->Q (za6 cur) ()) :
 wpR (zz5 [wu9 A4 A5 sh ts,za6 ts,ww6 n d k]) Q E:=by
 have go:=@zg3 9 3 (yf3 yq6 xj1).1 [wu9 A4 A5 sh ts,za6 ts,ww6 n d k] Q E (by simp) (by decide);unfold zz5;with_reducible refine go ?_
 clear go;unfold yf3;dsimp only;have few:=ho.few;have hnl:n<ts.length:=(Ac0.mp hn).1;simp_all!;simp! [ww6];simp_all!;simp!;rw  [zb0];simp!;rw[zf0 (by omega) (by omega)];refine zk0 (λi ρ st'=>∃(mid:List Tr) (x7 x8:Sl),ρ=[Sl.bor (wu9 A4 A5 sh ts),.bor (za6 ts),.bor (ww6 n d k),.bor (.int n),.bor (.int d),.bor (.int k),.bor (za6 mid),x7,x8]/\wv1 A4 A5 sh d n ts i mid) 0 ⟨ts,_,_,rfl,.zero⟩ (λi e ρ st' he hI P pn=>?_) λρ st' hI=>?_
 ·obtain⟨mid,x7,x8,er,hm⟩:=hI
  obtain⟨rfl,hi⟩:=ze9 he;subst er;rw[Ah0] at hm;rw[Ah0] at pn;obtain⟨t1,ht1⟩:∃t,mid[n]?=some t:=⟨_,Ad0 (by rw[hm.len];exact hnl)⟩;refine⟨_,rfl,?_⟩;simp_all!;simp!;rw[<-ze3 hm.kind];refine xo2 (hm.ok ho) ht1 hd (λh=>?_) λg' hg'=>?_
  ·simp!
   simp_all!;simp! [va5,D.isNon,xj6];have i0:(0:Int)+(i:Int)=(i:Int):=by omega
   have sm:=yb6 (i:=i) (by omega);refine⟨_,?_,hN i mid t1 (by omega) hm ht1 h⟩;rw[i0];show (if _ then some _ else none)=_;rw[if_pos sm]
  ·have gf:(D.tup (wv4 g')).flat=false:=rfl
   simp! [gf];simp_all!;simp! [va5,D.isNon];refine xx9 hd (by rw[hm.len];omega) hg'.lt hg'.nd ?_;have sf:(za6 (ze8 mid g' d)).flat=false:=rfl;simp! [sf];rw[ze3 hm.kind];exact pn _ _ ⟨_,_,_,rfl,.succ hm hg'⟩
 ·obtain⟨mid,x7,x8,er,hm⟩:=hI
  subst er;rw[Ah0,zd5,As0] at hm;have own:own? [Sl.bor (wu9 A4 A5 sh ts),.bor (za6 ts),.bor (ww6 n d k),.bor (.int n),.bor (.int d),.bor (.int k),.bor (za6 mid),x7,x8] 6=some (za6 mid):=by
   show (if (za6 mid).imm=true then some (za6 mid) else none)=_;rw[if_pos zc3]
  simp only[wp_sRetV];exact⟨_,own,hq mid hm⟩
theorem wv1.pos{A4 A5:Int}{sh:List ww1}{d:Int}{n:Nat}{ts ts':List Tr}{k:Nat}{t:Tr}(h:wv1 A4 A5 sh d n ts k ts')(hn:ts[n]?=some t)(hw:1<=t.w)(hh:1<=t.h) :
 ts'[n]?=some { t with x:=t.x+k*dx d,y:=t.y+k*dy d }/\(1<=k->0<=t.x+k*dx d/\t.x+k*dx d<A4/\0<=t.y+k*dy d/\t.y+k*dy d<A5):=by
 induction h with
 | zero=>refine⟨?_,λh=>absurd h (by decide)⟩;rw[hn];simp
 | @succ k ts' g _ hg ih=>
   have hng:n∈g:=(hg.all n).mpr .self;obtain⟨ih,_⟩:=ih;have e1:t.x+((k+1:Nat):Int)*dx d=t.x+k*dx d+dx d:=by rw[Int.natCast_add,Int.add_mul];simp;omega
   have e2:t.y+((k+1:Nat):Int)*dy d=t.y+k*dy d+dy d:=by rw[Int.natCast_add,Int.add_mul];simp;omega
   constructor
   ·rw[zd8,ih,e1,e2]
    simp only[Ao0,if_pos hng];rfl
   ·intro _
    have ok:=hg.ok n hng _ ih;have hm:(t.x+k*dx d+dx d,t.y+k*dy d+dy d)∈Tr.ahead { t with x:=t.x+k*dx d,y:=t.y+k*dy d } d:=by
     unfold Tr.ahead;rw[yc4];refine⟨Int.le_refl _,?_,Int.le_refl _,?_⟩<;>simp only<;>omega
    have:=(ok.2 _ hm).2;rw[e1,e2];exact this
def opp(d:Int):Int:=(d+2) % 4
section
variable{A4 A5:Int}{sh:List ww1}{d:Int}{n:Nat}{ts cur mid:List Tr}{k:Nat}
def wj1(hd:Dir d):Dir (opp d):=by rcases hd.cases with r | r | r | r<;>subst r<;>exact⟨by decide,by decide⟩
def wt0(hd:Dir d):dx (opp d)=- dx d/\dy (opp d)=- dy d:=by rcases hd.cases with r | r | r | r<;>subst r<;>exact⟨by decide,by decide⟩
def xu2{ways:Str}(hd:Dir d):wz1 ways (opp d)=wz1 ways d:=by rcases hd.cases with r | r | r | r<;>subst r<;>rfl
def wd4{t:Tr}(hd:Dir d):(t.to d).to (opp d)=t:=by
 obtain⟨a,b⟩:=wt0 hd;obtain⟨w,h,ways,s,x,y⟩:=t;simp only[Tr.to,a,b];have e1:x+dx d + -dx d=x:=by omega
 have e2:y+dy d + -dy d=y:=by omega
 rw[e1,e2]
def vx6{j:Nat}(hd:Dir d)(h1:(j:Int)*dx d=0)(h2:(j:Int)*dy d=0):j=0:=by
 rcases hd.cases with r | r | r | r<;>subst r<;>simp[dx,dy] at h1 h2<;>omega
theorem wv1.front{g:List Nat}(h1:wx9 A4 A5 sh ts d n g)(h:wv1 A4 A5 sh d n (ze8 ts g d) k cur):wv1 A4 A5 sh d n ts (k+1) cur:=by
 induction h with
 | zero=>exact .succ .zero h1
 | succ _ hg ih=>exact .succ ih hg
theorem wv1.mono(h:wv1 A4 A5 sh d n ts k cur){m:Nat}{t:Tr}(hm:ts[m]?=some t):∃j:Nat,cur[m]?=some { t with x:=t.x+j*dx d,y:=t.y+j*dy d }:=by
 induction h with
 | zero=>exact⟨0,by rw[hm];simp⟩
 | @succ k mid g _ _ ih=>
   obtain⟨j,hj⟩:=ih;rw[zd8,hj];by_cases hg:m∈g
   ·refine⟨j+1,?_⟩
    have e1:t.x+((j+1:Nat):Int)*dx d=t.x+j*dx d+dx d:=by rw[Int.natCast_add,Int.add_mul];simp;omega
    have e2:t.y+((j+1:Nat):Int)*dy d=t.y+j*dy d+dy d:=by rw[Int.natCast_add,Int.add_mul];simp;omega
    rw[e1,e2];simp only[Ao0,if_pos hg];rfl
   ·exact⟨j,by simp only[Ao0,if_neg hg]⟩
def vj6(n:Nat)(ts cur:List Tr):Prop:=∀m,m≠n->cur[m]?=ts[m]?
def xn2{g:List Nat}(hd:Dir d)(h:wv1 A4 A5 sh d n ts k mid)(al:vj6 n ts (ze8 mid g d)):vj6 n ts mid/\∀m,m≠n->m<ts.length->m∉g:=by
 have key:∀m,m≠n->∀t,ts[m]?=some t->mid[m]?=some t/\m∉g:=λm hm t ht=>by
  obtain⟨j,hj⟩:=h.mono ht;have e:=al m hm;rw[zd8,hj,ht] at e;by_cases hg:m∈g
  ·simp only[Ao0,if_pos hg,Option.some.injEq] at e
   have e1:=congrArg Tr.x e;have e2:=congrArg Tr.y e;simp only[Tr.to] at e1 e2;have z1:((j+1:Nat):Int)*dx d=0:=by rw[Int.natCast_add,Int.add_mul];simp;omega
   have z2:((j+1:Nat):Int)*dy d=0:=by rw[Int.natCast_add,Int.add_mul];simp;omega
   have:=vx6 hd z1 z2;omega
  ·simp only[Ao0,if_neg hg,Option.some.injEq] at e
   rw[hj,e];exact⟨rfl,hg⟩
 constructor
 ·intro m hm
  cases q:ts[m]? with
  | some t=>exact(key m hm t q).1
  | none=>
    have:=Bm0.mp q;exact Bm0.mpr (by rw[h.len];exact this)
 ·intro m hm hl
  exact(key m hm _ (Ad0 hl)).2
def xm7{t:Tr}(hd:Dir d)(hom:zd7 A4 A5 sh mid)(ht:mid[n]?=some t)(hg:wx9 A4 A5 sh mid d n [n]):wx9 A4 A5 sh (ze8 mid [n] d) (opp d) n [n]/\ze8 (ze8 mid [n] d) [n] (opp d)=mid:=by
 have cn:(ze8 mid [n] d)[n]?=some (t.to d):=by rw[zd8,ht];simp
 have cm:∀m,m≠n->(ze8 mid [n] d)[m]?=mid[m]?:=λm hm=>by
  rw[zd8];cases mid[m]?<;>simp[hm]
 have nl:n<mid.length:=(Ac0.mp ht).1;have to:=hom.tr t (Ai0 ht);have ah:(t.to d).ahead (opp d)=t.cells:=by rw[<-xe2,wd4 hd]
 have ap:=List.pairwise_iff_getElem.mp hom.apart;have apart:∀m u,m≠n->mid[m]?=some u->∀c∈u.cells,c∉t.cells:=λm u hm hu c h1 h2=>by
  obtain⟨hl,rfl⟩:=Ac0.mp hu;obtain⟨hl',rfl⟩:=Ac0.mp ht;rcases Nat.lt_or_gt_of_ne hm with h | h
  ·exact ap m n hl hl' h c h1 h2
  ·exact ap n m hl' hl h c h2 h1
 refine⟨⟨by simp,by simp,λm=>⟨λh=>?_,λh=>?_⟩,λm h=>?_,λm h u hu=>?_,λu hu=>?_⟩,?_⟩
 ·rw[Ae0.mp h];exact .self
 ·induction h with
  | self=>simp
  | @more m' k' tt u _ h1 h2 h3 ih=>
    have hm:=Ae0.mp ih;subst hm;rw[cn] at h1;cases h1;by_cases hk:k'=m'
    ·simp[hk]
    ·rw[cm k' hk] at h2
     obtain⟨c,hc1,hc2⟩:=h3;rw[ah] at hc2;exact absurd hc2 (apart k' u hk h2 c hc1)
 ·rw[Ae0.mp h,zh2];exact nl
 ·rw[Ae0.mp h,cn] at hu
  cases hu;have g1:=(hg.ok n (by simp) t ht).1;refine⟨by show wz1 t.ways (opp d)=true;rw[xu2 hd];exact g1,λc hc=>?_⟩;rw[ah] at hc;refine⟨to.free c hc,?_⟩;unfold Tr.cells at hc;rw[yc4] at hc;have:=to.x0;have:=to.xw;have:=to.y0;have:=to.yh;simp only at hc;omega
 ·rw[cn] at hu;cases hu
  exact⟨(hg.str t ht).1,λ_ m hm=>Ae0.mp hm⟩
 ·apply Cn0
  intro i;rw[zd8];by_cases hi:i=n
  ·subst hi
   rw[cn,ht];simp[wd4 hd]
  ·rw[cm i hi]
   cases mid[i]?<;>simp[hi]
theorem wv1.rev{t:Tr}(ho:zd7 A4 A5 sh ts)(hd:Dir d)(ht:ts[n]?=some t)(h:wv1 A4 A5 sh d n ts k cur):vj6 n ts cur->wv1 A4 A5 sh (opp d) n cur k ts:=by
 induction h with
 | zero=>intro _;exact .zero
 | @succ k mid g h0 hg ih=>
   intro al;obtain⟨al',hgn⟩:=xn2 hd h0 al;have hng:n∈g:=(hg.all n).mpr .self;have g1:g=[n]:=xd8 g [n] hg.lt' (by simp) λm=>⟨λhm=>by
    by_cases e:m=n
    ·simp[e]
    ·exact absurd hm (hgn m e (by rw[<-h0.len];exact hg.lt m hm)),λhm=>by rw[Ae0.mp hm];exact hng⟩
   subst g1;obtain⟨j,hj⟩:=h0.mono ht;obtain⟨r1,r2⟩:=xm7 hd (h0.ok ho) hj hg;refine .front r1 ?_;rw[r2];exact ih al'
def Tr.pos(t:Tr):ww1:=(t.x,t.y)
def zl0(ts cur:List Tr):List Nat:=(List.range ts.length).filter λm=>!decide ((cur[m]?).map Tr.pos=(ts[m]?).map Tr.pos)
def xs7:(zl0 ts cur).Pairwise (· < ·):=List.Pairwise.filter _ List.pairwise_lt_range
def yc2{m:Nat}:m∈zl0 ts cur↔m<ts.length/\(cur[m]?).map Tr.pos≠(ts[m]?).map Tr.pos:=by
 unfold zl0;simp
def yu5{t u:Tr}(h:t.pos=u.pos):t.x=u.x/\t.y=u.y:=by
 unfold Tr.pos at h;simpa using h
def xs6(hd:Dir d)(h:wv1 A4 A5 sh d n ts k cur){m:Nat}:(cur[m]?).map Tr.pos=(ts[m]?).map Tr.pos↔cur[m]?=ts[m]?:=by
 constructor
 ·intro e
  cases q:ts[m]? with
  | none=>
    have:=Bm0.mp q;exact Bm0.mpr (by rw[h.len];exact this)
  | some t=>
    obtain⟨j,hj⟩:=h.mono q;rw[hj,q] at e;simp only[Ao0,Option.some.injEq] at e;obtain⟨e1,e2⟩:=yu5 e;simp only at e1 e2;have:=vx6 (j:=j) hd (by omega) (by omega);subst this;rw[hj];simp
 ·intro e;rw[e]
def xk9{t:Tr}(hd:Dir d)(hk:1<=k)(ht:ts[n]?=some t)(hw:1<=t.w)(hh:1<=t.h)(h:wv1 A4 A5 sh d n ts k cur):n∈zl0 ts cur:=by
 rw[yc2];refine⟨(Ac0.mp ht).1,λe=>?_⟩;rw[(h.pos ht hw hh).1,ht] at e;simp only[Ao0,Option.some.injEq] at e;obtain⟨e1,e2⟩:=yu5 e;simp only at e1 e2;have:=vx6 (j:=k) hd (by omega) (by omega);omega
def xw7{t:Tr}(hd:Dir d)(hk:1<=k)(ht:ts[n]?=some t)(hw:1<=t.w)(hh:1<=t.h)(h:wv1 A4 A5 sh d n ts k cur):zl0 ts cur=[n]↔vj6 n ts cur:=by
 have hs:=xk9 hd hk ht hw hh h;constructor
 ·intro e m hm
  by_cases hl:m<ts.length
  ·have:m∉zl0 ts cur:=by rw[e];simpa using hm
   rw[yc2] at this;exact(xs6 hd h).mp (Classical.not_not.mp λz=>this ⟨hl,z⟩)
  ·rw[Bm0.mpr (by omega:ts.length<=m),Bm0.mpr (by rw[h.len];omega)]
 ·intro al
  refine xd8 _ _ xs7 (by simp) λm=>⟨λhm=>?_,λhm=>by rw[Ae0.mp hm];exact hs⟩
  rw[yc2] at hm;by_cases e:m=n
  ·simp[e]
  ·exact absurd (by rw[al m e]) hm.2
end
def wc1{a c:ww1}:D.eqq (wu8 a) (wu8 c)=some (decide (a=c)):=by
 show (D.eqq (.int a.1) (.int c.1)).bind (λx=>(D.eqL [.int a.2] [.int c.2]).map λy=>x&&y)=_;rw[zy3];show ((D.eqq (.int a.2) (.int c.2)).bind (λx=>(D.eqL [] []).map λy=>x&&y)).map (λy=>(a.1 == c.1)&&y)=_;rw[zy3];show some ((a.1 == c.1)&&((a.2 == c.2)&&true))=_;rw[Option.some.injEq,Cd0];simp[Prod.ext_iff]
def yv3{t u:Tr}:oEq true t.place u.place=some (.bl (!decide (t.pos=u.pos))):=by
 have h:t.place.dep<=30:=by simp[Tr.place,wu8,D.dep,D.depL]
 unfold oEq;rw[if_pos h];show (D.eqq (wu8 t.pos) (wu8 u.pos)).map _=_;rw[wc1];rfl
theorem yr3:∀a b:List Nat,D.eqL (wv4 a) (wv4 b)=some (decide (a=b))
 | [],[]=>rfl
 | [],_::_=>rfl
 | _::_,[]=>rfl
 | x::a,y::b=>by
   show (D.eqq (.int x) (.int y)).bind (λz=>(D.eqL (wv4 a) (wv4 b)).map λv=>z&&v)=_;rw[zy3,yr3 a b];show some (((x:Int) == (y:Int))&&decide (a=b))=_;rw[Option.some.injEq,Cd0];simp only[Bool.and_eq_true,beq_iff_eq,decide_eq_true_eq,List.cons.injEq];constructor<;>rintro ⟨h1,h2⟩<;>exact⟨by omega,h2⟩
def wa6{a b:List Nat}:oEq true (.tup (wv4 a)) (.tup (wv4 b))=some (.bl (!decide (a=b))):=by
 have h:(D.tup (wv4 a)).dep<=30:=by have:=xf8 a;unfold D.dep;omega
 unfold oEq;rw[if_pos h];show (D.eqL (wv4 a) (wv4 b)).map _=_;rw[yr3];rfl
def ve5:List D->Res Unit D:=dfn 4 3 (zp2 zz5).1
def xx7{A4 A5:Int}{sh:List ww1}{ts:List Tr}{n k:Nat}{d:Int}{t0:Tr}{Q:D->Unit->Prop}{E:Exn->Unit->Prop}(ho:zd7 A4 A5 sh ts)(hn:ts[n]?=some t0)(hd:Dir d)(hk9:k<=1000)(hN:∀(i:Nat) mid t1,i<k->wv1 A4 A5 sh d n ts i mid->mid[n]?=some t1->zr1 A4 A5 sh mid d n t1->E ⟨"Barred",[.int 0,.int i]⟩ ())(hq:∀cur,wv1 A4 A5 sh d n ts k cur->Q (.tup (wv4 (zl0 ts cur))) ()):wpR (ve5 [wu9 A4 A5 sh ts,za6 ts,ww6 n d k]) Q E:=by
 have go:=@zg3 4 3 (zp2 zz5).1 [wu9 A4 A5 sh ts,za6 ts,ww6 n d k] Q E (by simp) (by decide);unfold ve5;with_reducible refine go ?_
 clear go;unfold zp2;dsimp only;have few:=ho.few;simp_all!;simp! [yg8];with_reducible refine yt0 ho hn hd hk9 hN λcur hst=>?_
 have sf:(za6 cur).flat=false:=rfl;have len:va9 [za6 ts]=some (.int ts.length):=by unfold za6 va9;simp
 simp! [sf,len];rw[zf0 (by omega) (by omega)];refine zr2 (λi acc ρ st'=>∃x,acc=wv4 ((List.range i).filter λm=>!decide ((cur[m]?).map Tr.pos=(ts[m]?).map Tr.pos))/\ρ=[x,.bor (za6 cur),.bor (za6 ts)]) 0 ⟨_,rfl,rfl⟩ (λi e acc ρ st' he hI=>?_) λacc ρ st' hI=>?_
 ·obtain⟨x,ea,er⟩:=hI
  obtain⟨rfl,hi⟩:=ze9 he;rw[As0] at hi;subst er;rw[Ah0] at ea ⊢;have k0:(0:Int)+(i:Int)=(i:Int):=by omega
  obtain⟨t,ht⟩:∃t,ts[i]?=some t:=⟨_,Ad0 hi⟩;obtain⟨u,hu⟩:∃u,cur[i]?=some u:=⟨_,Ad0 (by rw[hst.len];exact hi)⟩;have p1:oIx (za6 cur) (.int i)=some u.place:=zj4 hu;have p2:oIx (za6 ts) (.int i)=some t.place:=zj4 ht;refine⟨_,rfl,?_⟩;rw[k0];simp! [p1,p2,yv3];have hs:(List.range (i+1)).filter (λm=>!decide ((cur[m]?).map Tr.pos=(ts[m]?).map Tr.pos))=(List.range i).filter (λm=>!decide ((cur[m]?).map Tr.pos=(ts[m]?).map Tr.pos))++(if u.pos=t.pos then [] else [i]):=by
   rw[List.range_succ,List.filter_append];by_cases h:u.pos=t.pos<;>simp[hu,ht,h]
  rw[hs];have hl:acc.length<=i:=by
   rw[ea];unfold wv4;rw[Aa0];exact Av0 (List.length_filter_le _ _) (by simp)
  by_cases h:u.pos=t.pos
  ·rw[if_pos h,Az0]
   simp only[h,decide_true,Bool.not_true,Bz0,if_false];exact⟨_,ea,rfl⟩
  ·rw[if_neg h]
   simp only[h,decide_false,Co0,if_true];refine⟨lt_size (by omega),_,?_,rfl⟩;rw[ea];unfold wv4;rw[Aw0];rfl
 ·obtain⟨x,ea,er⟩:=hI
  rw[Ah0,zd5,As0] at ea;rw[ea];simp! [yd8,zj0];exact hq cur hst
def vq9:List D->Res Unit D:=dfn 1 1 yb9.1
def wn0{d:Int}{Q:D->Unit->Prop}{E:Exn->Unit->Prop}(hq:Q (.int (opp d)) ()):wpR (vq9 [.int d]) Q E:=by
 refine zg3 rfl (by decide) ?_;unfold yb9;dsimp only;have i4:∀{d:Int},iOp (λ_ j=>0<j) (λi j=>D.int (i % j)) (.int d) (.int 4)=some (.int (d % 4)):=λ{d}=>yw9 (C:=λ_ j=>0<j) (by decide)
 simp! [ww9,wx7,i4];exact hq
def vd1:List D->Res Unit D:=dfn 6 3 (yb2 ve5 vq9).1
def xy0{A4 A5:Int}{sh:List ww1}{ts:List Tr}{n k:Nat}{d:Int}{t0:Tr}{Q:D->Unit->Prop}{E:Exn->Unit->Prop}(ho:zd7 A4 A5 sh ts)(hn:ts[n]?=some t0)(hd:Dir d)(hk9:k<=1000)(hN:∀(i:Nat) mid t1,i<k->wv1 A4 A5 sh d n ts i mid->mid[n]?=some t1->zr1 A4 A5 sh mid d n t1->E ⟨"Barred",[.int 0,.int i]⟩ ())(h1:∀cur,wv1 A4 A5 sh d n ts k cur->zl0 ts cur=[n]->Q (ww6 n (opp d) k) ())(h2:∀cur,wv1 A4 A5 sh d n ts k cur->zl0 ts cur≠[n]->Q .non ()):wpR (vd1 [wu9 A4 A5 sh ts,za6 ts,ww6 n d k]) Q E:=by
 have go:=@zg3 6 3 (yb2 ve5 vq9).1 [wu9 A4 A5 sh ts,za6 ts,ww6 n d k] Q E (by simp) (by decide);unfold vd1;with_reducible refine go ?_
 clear go;unfold yb2;dsimp only;simp_all!;simp! [ww6];simp_all!;simp! [yg8];have hpd:D.tup [D.int (n:Int),D.int d,D.int (k:Int)]=ww6 n d k:=rfl;rw[hpd];with_reducible refine xx7 ho hn hd hk9 hN λcur hst=>?_
 have t1:vb4 [D.int n]=some (.tup (wv4 [n])):=zi7 (by simp[D.immL,D.imm]) (by simp);simp! [t1,wa6];by_cases h:zl0 ts cur=[n]
 ·simp! [h,decide_true]
  refine wn0 ?_;simp! [vl1];exact h1 cur hst h
 ·simp! [h,decide_false]
  exact h2 cur hst h
structure Pk where
 n:Nat
 d:Int
 k:Nat
def Pk.data(p:Pk):D:=ww6 p.n p.d p.k
def Pk.ok(m:Nat)(p:Pk):Prop:=p.n<m/\Dir p.d/\1<=p.k/\p.k<=900
def xe7{n:Nat}{d k:Int}:(ww6 n d k).imm=true:=by simp[ww6,D.imm,D.immL]
def zu0(p:Pk):p.data.imm=true:=xe7
inductive wv2(A4 A5:Int)(sh:List ww1)(ts:List Tr):List Pk->List (List Tr)->List Tr->Prop where
 | nil:wv2 A4 A5 sh ts [] [] ts
 | snoc {ps:List Pk} {ss:List (List Tr)} {cur nx:List Tr} {p:Pk}:wv2 A4 A5 sh ts ps ss cur->wv1 A4 A5 sh p.d p.n cur p.k nx->wv2 A4 A5 sh ts (ps++[p]) (ss++[nx]) nx
section
variable{A4 A5:Int}{sh:List ww1}{ts cur:List Tr}{ps:List Pk}{ss:List (List Tr)}
theorem wv2.ok(h:wv2 A4 A5 sh ts ps ss cur)(ho:zd7 A4 A5 sh ts):zd7 A4 A5 sh cur:=by
 induction h with
 | nil=>exact ho
 | snoc _ hs ih=>exact hs.ok ih
theorem wv2.len(h:wv2 A4 A5 sh ts ps ss cur):cur.length=ts.length:=by
 induction h with
 | nil=>rfl
 | snoc _ hs ih=>rw[hs.len];exact ih
theorem wv2.kind(h:wv2 A4 A5 sh ts ps ss cur):cur.map Tr.kind=ts.map Tr.kind:=by
 induction h with
 | nil=>rfl
 | snoc _ hs ih=>rw[hs.kind];exact ih
theorem wv2.many(h:wv2 A4 A5 sh ts ps ss cur):ss.length=ps.length:=by
 induction h with
 | nil=>rfl
 | snoc _ _ ih=>rw[An0,An0,ih];rfl
theorem wv2.last(h:wv2 A4 A5 sh ts ps ss cur):(ts::ss)[ps.length]?=some cur:=by
 cases h with
 | nil=>rfl
 | snoc h0 hs=>
   rw[An0,<-h0.many];simp
end
def yb7:List D->Res Unit D:=dfn 8 3 (yf4 zz5).1
def xo0{A4 A5:Int}(ho:zd7 A4 A5 sh ts)(hp:∀p∈ps,p.ok ts.length)(hl:ps.length<=900)(hN:∀(i j:Nat) ss cur p mid t,wv2 A4 A5 sh ts (ps.take i) ss cur->ps[i]?=some p->j<p.k->wv1 A4 A5 sh p.d p.n cur j mid->mid[p.n]?=some t->zr1 A4 A5 sh mid p.d p.n t->E ⟨"Barred",[.int i,.int j]⟩ ())(hq:∀ss cur,wv2 A4 A5 sh ts ps ss cur->Q (.lst ((ts::ss).map za6)) ()):wpR (yb7 [wu9 A4 A5 sh ts,za6 ts,.lst (ps.map Pk.data)]) Q E:=by
 have go:=@zg3 8 3 (yf4 zz5).1 [wu9 A4 A5 sh ts,za6 ts,.lst (ps.map Pk.data)] Q E (by simp) (by decide);unfold yb7;with_reducible refine go ?_
 clear go;unfold yf4;dsimp only;have o1':ve0 [za6 ts]=some (.lst [za6 ts]):=zi8 (by simp[D.immL,zc3]) (by simp);have pim:D.immL (ps.map Pk.data)=true:=zb5 zu0 ps;simp_all!;simp! [o1',zc3];simp_all!;have en:yi3 0 [.lst (ps.map Pk.data)]=some (vh8 0 (ps.map Pk.data)):=rfl;have sim:∀l:List (List Tr),D.immL (l.map za6)=true:=λl=>zb5 (λ_=>zc3) l
 simp! [pim,en];refine zk0 (λi ρ st'=>∃(ss:List (List Tr)) (cur:List Tr) (x4 x5 x6 x7:Sl),ρ=[Sl.bor (wu9 A4 A5 sh ts),.bor (za6 ts),.bor (.lst (ps.map Pk.data)),.own (.lst ((ts::ss).map za6)),x4,x5,x6,x7]/\wv2 A4 A5 sh ts (ps.take i) ss cur) 0 ⟨[],ts,_,_,_,_,rfl,.nil⟩ (λi e ρ st' he hI P pn=>?_) λρ st' hI=>?_
 ·obtain⟨ss,cur,x4,x5,x6,x7,er,hch⟩:=hI
  rw[Ah0] at hch pn;subst er;obtain⟨y,hy,rfl⟩:=zz8 he;rw[Ag0] at hy;cases q:ps[i]? with
  | none=>rw[q] at hy;cases hy
  | some p=>
    rw[q] at hy;have e1:p.data=y:=Option.some.inj hy;subst e1;obtain⟨p1,p2,p3,p4⟩:=hp p (Ai0 q);have hil:i<ps.length:=(Ac0.mp q).1;have tl:(ps.take i).length=i:=by rw[Bf0];omega
    have hla:=hch.last;rw[tl] at hla;have hss:=hch.many;rw[tl] at hss;have hoc:=hch.ok ho;have ht:cur[p.n]?=some (cur[p.n]'(by rw[hch.len];exact p1)):=Ad0 _;have ix:oIx (.lst (za6 ts::ss.map za6)) (.int (i+0:Nat))=some (za6 cur):=(zx5 (l:=(ts::ss).map za6) zc3 (by omega) (by rw[Nat.add_zero,As0,Ag0,hla];rfl)).1;have pd:p.data=ww6 p.n p.d p.k:=rfl;refine⟨_,rfl,?_⟩;simp_all!;simp! [xx8,sim,ix];rw[pd,<-ze3 hch.kind];have k1000:p.k<=1000:=by omega
    with_reducible refine yt0 hoc ht p2 k1000 (λj mid t1 hj hm h1 no=>?_) λnx hs=>?_
    ·have s1:=yb6 (i:=i) (by omega)
     have s2:=yb6 (i:=j) (by omega);refine⟨⟨"Barred",[.int i,.int j]⟩,?_,hN i j ss cur p mid t1 hch q hj hm h1 no⟩;show (if _ then some _ else none)=_;rw[if_pos ⟨by rw[Nat.add_zero];exact s1.2,s2.2⟩,Nat.add_zero]
    ·have sf:(za6 nx).flat=false:=rfl
     rw[ze3 hch.kind];simp! [sf,ww2,sim,zc3];refine⟨_,zx9 zc3 (by simp;omega),?_⟩;refine pn _ _ ⟨ss++[nx],nx,_,_,_,_,by rw[Ax0,Aw0];rfl,?_⟩;rw[Ba0,q];exact .snoc hch hs
 ·obtain⟨ss,cur,x4,x5,x6,x7,er,hch⟩:=hI
  rw[Ah0,zn4,Aa0,Be0] at hch;subst er;simp! [sim];exact⟨_,if_pos zc3,hq ss cur hch⟩
def vc4(G:List D->Res Unit D)(l:List D):Res Unit D:=match G l with
 | .ok d st=>.ok (.tup [.str "told",d]) st
 | .exc x st=>(match x.args with
   | [.int a,.int b]=>.ok (.tup [.str "barred",.int a,.int b]) st
   | _=>.bad)
 | .bad=>.bad
structure XCB(K:PySem.W.Frag)(mg:Str->Option Value)(C1:Addr):Prop where
 n1:mg "Barred" = some (.ref C1)
 r1:vh7 K mg C1
 l1:va3 K C1
 a1:PySem.W.findIn K (.ref C1) "push" = some none
 a2:PySem.W.findIn K (.ref C1) "step" = some none
 up:∃C0 bm bm0,mg "HallError" = some (.ref C0)/\vm6 K C1 bm/\vm6 K C0 bm0/\(Value.ref C0::bm0).contains (.type "BaseException")=true/\(Value.ref C1::bm).contains (.ref C0)=true
 no:∃C2 C3 C4 C5,mg "BadRow" = some (.ref C2)/\mg "NoRoom" = some (.ref C3)/\mg "NoStand" = some (.ref C4)/\mg "TooMany" = some (.ref C5)/\PySem.W.kitAny K (.ref C1) [.ref C2,.ref C3,.ref C4,.ref C5]=some false
 vn:mg "ValueError" = none
 vt:PySem.W.kitOne K (.ref C1) (.type "ValueError")=some true
theorem ue2{α:Type}{us:List α}(h:us.length=3):∃a b c,us=[a,b,c]:=by
 match us,h with
 | [a,b,c],_=>exact⟨a,b,c,rfl⟩
def xe1{G:List D->Res Unit D}{l:List D}{Q:D->Unit->Prop}{E:Exn->Unit->Prop}(hG:∀l,l.length≠3->G l=.bad)(w:wpR (vc4 G l) Q E):l.length=3:=by
 apply Classical.byContradiction;intro h;unfold vc4 at w;rw[hG l h] at w;exact w
def zy2{H:Hp}{tp:Addr}{o:HO}(n:H tp=none):wx4 H (upd H tp o):=λb u e=>by rw[za9 (zb1 e n)];exact e
def wb2{A:Addr->Prop}{H:Hp}{tp:Addr}{o:HO}(n:H tp=none):ww5 A A H (upd H tp o):=⟨λb u e _=>zy2 n b u e,λb u a e=>⟨a,zy2 n b u e⟩⟩
open H in
def wj4{P:Program}{w:World}{K:PySem.W.Frag}{mg:Str->Option Value}{base:Heap}{k:Nat}{f g:Addr}{fd gd:FuncData}{C1:Addr}{ps:List Str}{G:List D->Res Unit D}(F:Fun K "_law_told" "_law_told" zr8 f fd)(hm:Bn mg)(xc:XCB K mg C1)(kp:keepIn K (.ref g)=true)(bp:wz7 K gd ps [])(hG:∀l,l.length≠3->G l=.bad)(Gk:wy0 P w K mg base (CX2 P w) k g gd ps (spB K C1 G)) :
 wy0 P w K mg base CX0 (k+1) f fd ["_law_hall_here","_law_stand","_law_pushes","_law_call"] (spT g K (vc4 G)):=by
 obtain⟨C0,bm,bm0,m0,e1,e0,hbe,hin⟩:=xc.up;obtain⟨C2,C3,C4,C5,m2,m3,m4,m5,hno⟩:=xc.no;obtain⟨nm,qn,N,bs,bmR,sn,sub,ab,col,dd,k0,k1,k2,k3,k5,fi,fid,ofi,lk,_⟩:=id xc.r1.ex;refine F.ok zo6 (λvs H Q E h=>?_) λcdv A outer s H vs Q E hr h=>?_
 ·obtain⟨us,rfl,l,i,z⟩:=h
  rw[An0,<-i.length,xe1 hG z];rfl
 ·obtain⟨us,rfl,l,i,wq⟩:=h
  obtain⟨v0,v1,v2,rfl⟩:=ue2 (i.length.symm.trans (xe1 hG wq));refine⟨λD σ H1=>σ=wx1 zy0 [v0,v1,v2,.ref g]/\H1=H/\∀v H',Q v H'->D.rt v H',?_,rfl,rfl,λ_ _ q=>q⟩;intro A3 s1 σ H1 D I ⟨e1',e2',e3⟩;subst e1' e2';refine yt6 (zl6 (i:=4) zo6.nd rfl (.inl rfl) yu7) I ⟨rfl,rfl⟩ λs2 I2=>?_
  refine yt6 (zl6 (i:=5) zo6.nd rfl (.inl rfl) yu7) I2 ⟨rfl,rfl⟩ λs3 I3=>?_
  refine uc1 (ia:=5) (ic:=4) (inn:=6) (C1:=C1) (C0:=C0) (bm:=bm) (bm0:=bm0) I3 (vy6 (Q:=λv H'=>∀tp,H' tp=none->Q (.ref tp) (upd H' tp (.tup [.str "told",v]))) (E:=λc od H'=>c=.ref C1/\∃dx a b,od=some dx/\H' dx=some (xdB a b)/\∀H2,wx4 H' H2->∀tp,H2 tp=none->Q (.ref tp) (upd H2 tp (.tup [.str "barred",.int a,.int b]))) (i:=3) Gk hr (pv 3) rfl kp bp (zb8 (pv 0) (zb8 (pv 1) (zb8 (pv 2) zf4))) I3 ?h (λ_ _ z=>z)) rfl rfl zo6.nd rfl rfl rfl rfl rfl rfl rfl m0 e1 e0 hbe hin (λ_ _ _ z=>z.1) ?ok ?ex;case h=>
   refine⟨v0,rfl,v1,rfl,v2,rfl,l,i,?_⟩;unfold vc4 at wq;cases q:G l with
   | bad=>rw[q] at wq;exact wq
   | ok d st=>
     rw[q] at wq;intro v H' sm is tp htp;refine wq (.ref tp) _ (λb o e=>zy2 htp b o (sm b o e)) ?_;unfold Is;exact⟨tp,_,rfl,zb3,IsL.cons.mpr ⟨_,_,rfl,Is.str_iff.mpr rfl,IsL.one (is.mono (wb2 htp))⟩⟩
   | exc x st=>
     rw[q] at wq;intro H' sm a b hab dx hdx;simp only[hab] at wq;refine⟨rfl,dx,a,b,rfl,zb3,λH2 sm2 tp htp=>wq (.ref tp) _ (λb o e=>zy2 htp b o (sm2 b o (zy2 hdx b o (sm b o e)))) ?_⟩;unfold Is;exact⟨tp,_,rfl,zb3,IsL.cons.mpr ⟨_,_,rfl,Is.str_iff.mpr rfl,IsL.cons.mpr ⟨_,_,rfl,Is.int_iff.mpr rfl,IsL.one (Is.int_iff.mpr rfl)⟩⟩⟩
  case ok=>
   intro v H' s' I' q;refine wpAny_execs_cons (thn (vc5 (we2 (we4 (pv 4))) (zp6 (zz4 (yh5 (zb8 zo9 (zb8 (pv 5) zf4))))) zx8 A3 s' _ H' { nx:=λ_ _=>False,rt:=D.rt } I' ⟨.non,rfl,true,rfl,v,rfl,(by show 2<=sizeLine;decide),λtp htp=>e3 _ _ (q tp htp)⟩) λfl s4 z=>?_);cases fl with
   | next=>obtain⟨_,_,_,z⟩:=z;exact z.elim
   | ret u=>exact z
   | brk=>obtain⟨_,_,_,z⟩:=z;exact z.elim
   | cont=>obtain⟨_,_,_,z⟩:=z;exact z.elim
  case ex=>
   intro y oe H' s' I' hc ⟨fs,hdat⟩ hE;obtain⟨_,dx,a,b,hd,hx,hq0⟩:=hE;have IP:=I'.toP;have run:∃t,PSs (((wx0 CX0 P w K mg base zy0 "_law_told" (za2 zr8) f cdv A outer s H1 E).nox).pinned (y,oe)) ((zb9 zr8).drop 3) t/\∀σ4:L2.St,σ4[4]?=some (some (V.ref y))->t D σ4 H':=by
    refine' ⟨_,zg4 (vc5 (we2 (we4 (pv 4))) (zp6 (zz4 (yh5 (zb8 zo9 (zb8 (pv 5) zf4))))) zx8) (zg4 (vc5 (PW.pt (pw_or (we1 (xe8 ?i1)) (pw_or1 (xe8 ?i2)))) (zp6 (zz4 yu7)) zx8) (zp6 (zz4 (xz6 (xe8 ?i3) (yh5 (zb8 zo9 (zb8 ?x1 (zb8 ?x2 zf4)))) yu7)))),?hq⟩;case i1=>exact zs1 (xt7 (.head _) hc xc.l1 e1) rfl hm.isinstance boot_isinstance (zb8 (pv 4) (zb8 (zu2 (v:=.ref C1) rfl xc.n1 rfl) zf4))
    case i2=>exact zs1 (wk4 (.head _) hc xc.l1 e1) rfl hm.isinstance boot_isinstance (zb8 (pv 4) (zb8 (yh5 (zb8 (zu2 (v:=.ref C2) rfl m2 rfl) (zb8 (zu2 (v:=.ref C3) rfl m3 rfl) (zb8 (zu2 (v:=.ref C4) rfl m4 rfl) (zb8 (zu2 (v:=.ref C5) rfl m5 rfl) zf4))))) zf4))
    case i3=>exact zs1 (xt7 (.head _) hc xc.l1 e1) rfl hm.isinstance boot_isinstance (zb8 (pv 4) (zb8 (xr5 (v:=.ty "ValueError") rfl xc.vn rfl rfl) zf4))
    case x1=>exact yq2 (.head _) hc hd hdat lk xc.l1 xc.a1 (pv 4)
    case x2=>exact yq2 (.head _) hc hd hdat lk xc.l1 xc.a2 (pv 4)
    case hq=>
    intro σ4 h4;have z1:∀{p q:Prop},q->if false=true then p else q:=λz=>by rw[if_neg Bh0];exact z
    have z2:∀{p q:Prop},p->if true=true then p else q:=λz=>by rw[if_pos rfl];exact z
    refine⟨.ref y,h4,false,rfl,z1 ?_⟩;refine⟨.ref y,h4,.ref C1,.ref C1,true,rfl,(λ_ z=>z),if_pos (Ak1 _),true,rfl,z1 ?_⟩;refine⟨.ref y,h4,(by show 4<=sizeLine;decide),λtp htp=>⟨tp,[C2,C3,C4,C5],false,rfl,zb3,hno,false,rfl,z1 ?_⟩⟩;refine⟨.ref y,h4,.ty "ValueError",.type "ValueError",true,rfl,(λ_ z=>z),xc.vt,true,rfl,z2 ?_⟩;have hx2:=zy2 (o:=.tup ([C2,C3,C4,C5].map V.ref)) htp dx _ hx;refine⟨.ref y,h4,_,a,rfl,hx2,rfl,.ref y,h4,_,b,rfl,hx2,rfl,(by show 3<=sizeLine;decide),λt2 ht2=>e3 _ _ (hq0 _ (zy2 htp) t2 ht2)⟩
   obtain⟨t,ht,hq⟩:=run;exact thn (ht A3 s' _ H' D IP (hq _ rfl)) λfl s4 z=>z.ofP
def wb3{n:Nat}(h:0<n):ixN n (-1)=some (n-1):=by
 unfold ixN;rw[if_neg (by decide),if_pos (by omega)];congr 1;omega
def xb7(m:d.imm=true)(h:l.getLast?=some d):oIx (.lst l) (.int (-1))=some d:=by
 have hp:0<l.length:=by
  obtain⟨ys,rfl⟩:=List.getLast?_eq_some_iff.mp h;simp
 show im (atI l (-1))=_;unfold atI;rw[wb3 hp];rw[List.getLast?_eq_getElem?] at h;show (l[l.length-1]?.bind λd=>if d.imm=true then some d else none)=some d;rw[h];show (if d.imm=true then some d else none)=some d;rw[if_pos m]
theorem wv2.lastL{A4 A5:Int}(h:wv2 A4 A5 sh ts ps ss cur):(ts::ss).getLast?=some cur:=by
 cases h with
 | nil=>rfl
 | snoc h0 hs=>exact List.getLast?_concat (l:=ts::_)
def yh1:List D->Res Unit D:=dfn 7 3 (zm8 zs4).1
def ys8{A4 A5:Int}(ho:zd7 A4 A5 sh ts)(hp:∀p∈ps,p.ok ts.length)(hl:ps.length<=900)(hN:∀(i j:Nat) ss cur p mid t,wv2 A4 A5 sh ts (ps.take i) ss cur->ps[i]?=some p->j<p.k->wv1 A4 A5 sh p.d p.n cur j mid->mid[p.n]?=some t->zr1 A4 A5 sh mid p.d p.n t->Q (.tup [.int i,.int j]) ())(hq:∀ss cur,wv2 A4 A5 sh ts ps ss cur->Q (.lst ((ts::ss).map za6)) ()):wpR (yh1 [wu9 A4 A5 sh ts,za6 ts,.lst (ps.map Pk.data)]) Q E:=by
 have go:=@zg3 7 3 (zm8 zs4).1 [wu9 A4 A5 sh ts,za6 ts,.lst (ps.map Pk.data)] Q E (by simp) (by decide);unfold yh1;with_reducible refine go ?_
 clear go;unfold zm8;dsimp only;have l1:ve0 [za6 ts]=some (.lst [za6 ts]):=zi8 (by simp[D.immL,zc3]) (by simp);have sim:∀l:List (List Tr),D.immL (l.map za6)=true:=λl=>zb5 (λ_=>zc3) l
 have en:yi3 0 [.lst (ps.map Pk.data)]=some (vh8 0 (ps.map Pk.data)):=rfl;simp_all!;simp! [l1,zc3];rw  [zb0];simp! [en];refine yg7 (λi ρ st'=>∃(ss:List (List Tr)) (cur:List Tr) (x4 x5 x6:Sl),ρ=[Sl.bor (wu9 A4 A5 sh ts),.bor (za6 ts),.bor (.lst (ps.map Pk.data)),.own (.lst ((ts::ss).map za6)),x4,x5,x6]/\wv2 A4 A5 sh ts (ps.take i) ss cur) 0 ⟨[],ts,_,_,_,rfl,.nil⟩ (λi e ρ st' he hI P pn pr=>?_) λρ st' hI=>?_
 ·obtain⟨ss,cur,x4,x5,x6,er,hch⟩:=hI
  rw[Ah0] at hch pn;subst er;obtain⟨y,hy,rfl⟩:=zz8 he;rw[Ag0] at hy;cases q:ps[i]? with
  | none=>rw[q] at hy;cases hy
  | some p=>
    rw[q] at hy;have e1:p.data=y:=Option.some.inj hy;subst e1;obtain⟨p1,p2,p3,p4⟩:=hp p (Ai0 q);have hil:i<ps.length:=(Ac0.mp q).1;have tl:(ps.take i).length=i:=by rw[Bf0];omega
    have hss:=hch.many;rw[tl] at hss;have hoc:=hch.ok ho;have ixl:oIx (.lst (za6 ts::ss.map za6)) (.int (-1))=some (za6 cur):=xb7 (l:=(ts::ss).map za6) zc3 (by rw[List.getLast?_map,hch.lastL];rfl);have pd:p.data=ww6 p.n p.d p.k:=rfl;have hn:p.n<cur.length:=by rw[hch.len];exact p1
    refine⟨_,rfl,?_⟩;simp_all!;simp! [sim,ixl];rw[pd,<-ze3 hch.kind];have k0:(0:Int)<=(p.k:Int):=by omega
    have k1:(p.k:Int)<=1000:=by omega
    with_reducible refine yb3 (zn1 hoc) hn p2 k0 k1 (λj mid t hj hm h1 no=>?_) λnx hs=>?_
    ·have ii:isI Bt.tuple (.int (j:Nat))=false:=rfl
     have t2:vb4 [.int (i+0:Nat),.int (j:Nat)]=some (.tup [.int (i:Nat),.int (j:Nat)]):=by rw[Nat.add_zero];exact zi7 (by simp[D.immL,D.imm]) (by simp)
     simp!;simp_all!;simp! [ii,t2];exact pr _ _ (hN i j ss cur p mid t hch q (by omega) hm h1 no)
    ·rw[As0] at hs
     have ii:isI Bt.tuple (za6 nx)=true:=rfl;have sf:(za6 nx).flat=false:=rfl;rw[ze3 hch.kind];simp! [sf];simp_all!;simp! [ii,ww2,sim,zc3];refine⟨_,zx9 zc3 (by simp;omega),?_⟩;refine pn _ _ ⟨ss++[nx],nx,_,_,_,by rw[Ax0,Aw0];rfl,?_⟩;rw[Ba0,q];exact .snoc hch hs
 ·obtain⟨ss,cur,x4,x5,x6,er,hch⟩:=hI
  rw[Ah0,zn4,Aa0,Be0] at hch;subst er;simp! [sim];exact⟨_,if_pos zc3,hq ss cur hch⟩
theorem xf3{neg:Bool}(h:D.depL l<=29):oEq neg (.tup l) (.tup [])=some (.bl (if neg then !decide (l=[]) else decide (l=[]))):=by
 unfold oEq;rw[if_pos (by simp only[D.dep,D.depL];omega)];cases l with
 | nil=>cases neg<;>rfl
 | cons a l=>cases neg<;>rfl
def wr4{v:Int}(h0:0<=v)(h1:v<4):∃k:Nat,oIx (.lst [.int 1,.int 1,.int 2,.int 9]) (.int v)=some (.int k)/\1<=k/\k<=9:=by
 have:v=0\/v=1\/v=2\/v=3:=by omega
 rcases this with r | r | r | r<;>subst r
 ·exact⟨1,rfl,by omega,by omega⟩
 ·exact⟨1,rfl,by omega,by omega⟩
 ·exact⟨2,rfl,by omega,by omega⟩
 ·exact⟨9,rfl,by omega,by omega⟩
def yl7:(za6 ts).flat=false:=rfl
def xe4:isI Bt.tuple (za6 ts)=true:=rfl
def zk3{ps:List Pk}:D.immL (ps.map Pk.data)=true:=zb5 zu0 ps
def yz1{A4 A5:Int}{n k:Nat}{d:Int}(hc:Cfg A4 A5 sh ts)(hn:n<ts.length)(hd:Dir d)(hk:k<=1000)(hst:wv1 A4 A5 sh d n ts k cur)(hq:Q (za6 cur) ()) :
 wpR (zs4 [wu9 A4 A5 sh ts,za6 ts,ww6 n d k]) Q E:=by
 with_reducible refine yb3 hc hn hd (by omega) (by omega) (λi ts' t hi hs ht hno=>?_) λts' hs=>?_
 ·obtain⟨m,g,e1,e2⟩:=hst.pre i (by omega)
  have:=hs.det e1;subst this;exact absurd hno (e2.not ht)
 ·rw[As0] at hs
  rw[hs.det hst];exact hq
def Pk.lo(m:Nat)(p:Pk):Prop:=p.n<m/\Dir p.d/\1<=p.k/\p.k<=9
def vq6:List D->Dr->Res Dr D:=vh4 10 4 (yc9 wx8 zs4).1
def wm9{A4 A5:Int}{sh:List ww1}{ts:List Tr}{many:Int}{st:Dr}{Q:D->Dr->Prop}{E:Exn->Dr->Prop}(ho:zd7 A4 A5 sh ts)(hs:st.2<2 ^ 39)(h0:0<=many)(h1:many<=60)(hq:∀(ps:List Pk) st',(∀p∈ps,Pk.lo ts.length p)->ps.length<=60->st'.2<=st.2+180->Q (.lst (ps.map Pk.data)) st'):wpR (vq6 [wu9 A4 A5 sh ts,za6 ts,.int many] st) Q E:=by
 unfold vq6;refine yg9 rfl (by decide) ?_;unfold yc9;dsimp only;simp_all!;simp! [va0];have t0:vb4 []=some (.tup []):=zi7 rfl (by simp);have dp:D.depL (ts.map Tr.place)<=29:=Av0 (zm7 (n:=1) (λa=>by simp[Tr.place,wu8,D.dep,D.depL]) ts) (by decide);have sd:za6 ts=.tup (ts.map Tr.place):=rfl;have e0:oEq true (za6 ts) (.tup [])=some (.bl (!decide (ts=[]))):=by
  rw[sd,xf3 dp];simp
 obtain⟨rr,em,r0,r1,rn⟩:∃rr:Int,vg8 (.int many) (.int (if (!decide (ts=[]))=true then 1 else 0))=some (.int rr)/\0<=rr/\rr<=60/\(0<rr->ts≠[]):=by
  by_cases h:ts=[]
  ·rw[Aj1 h]
   exact⟨many*0,zu4 (by unfold vd7;simp),by omega,by omega,λh=>by omega⟩
  ·rw[Ai1 h]
   exact⟨many*1,zu4 (by unfold vd7;omega),by omega,by omega,λ_=>h⟩
 simp_all!;simp! [t0,e0,vl4,em];rw[zf0 (by omega) r0];refine zk0 (λi ρ st'=>∃(ps:List Pk) (cur:List Tr) (x5 x6 x7 x8 x9:Sl),ρ=[Sl.hnd,.bor (wu9 A4 A5 sh ts),.bor (za6 cur),.bor (.int many),.own (.lst (ps.map Pk.data)),x5,x6,x7,x8,x9]/\(zd7 A4 A5 sh cur/\cur.length=ts.length/\cur.map Tr.kind=ts.map Tr.kind)/\(∀p∈ps,Pk.lo ts.length p)/\ps.length<=i/\st'.2<=st.2+3*i) 0 ⟨[],ts,_,_,_,_,_,rfl,⟨ho,rfl,rfl⟩,(λp h=>nomatch h),by simp,by omega⟩ (λi e ρ st' he hI P pn=>?_) λρ st' hI=>?_
 ·obtain⟨ps,cur,x5,x6,x7,x8,x9,er,⟨hoc,hcl,hck⟩,hpl,hlen,hst⟩:=hI
  obtain⟨rfl,hi⟩:=ze9 he;subst er;have hne:=rn (by omega);have htl:0<ts.length:=List.length_pos_iff.mpr hne;have ocl:va9 [za6 cur]=some (.int ts.length):=by
   show some (D.int ((cur.map Tr.place).length:Nat))=_;rw[Aa0,hcl]
  have few:=ho.few;refine⟨_,rfl,?_⟩;simp_all!;simp! [ocl];refine zc7 (by omega) (by omega) (by omega) λv1 st1 a1 b1 c1=>?_
  refine zc7 (by decide) (by decide) (by omega) λv2 st2 a2 b2 c2=>?_
  obtain⟨n,hn,rfl⟩:∃n:Nat,n<ts.length/\v1=n:=⟨v1.toNat,by omega,by omega⟩;have hd:Dir v2:=⟨a2,b2⟩;have l4:ve0 [D.int 1,.int 1,.int 2,.int 9]=some (.lst [D.int 1,.int 1,.int 2,.int 9]):=zi8 rfl (by simp);have hkd:=ze3 (A4:=A4) (A5:=A5) (sh:=sh) hck;simp_all!;simp! [l4];refine zc7 (by decide) (by decide) (by omega) λv3 st3 a3 b3 c3=>?_
  obtain⟨k,ek,k1,k9⟩:=wr4 a3 b3;simp! [ek,vl1];simp_all!;simp!;have ue:D.tup [.int n,.int v2,.int k]=ww6 n v2 k:=rfl;rw[<-hkd,ue];have fin:∀(m:Nat) (mid:List Tr),1<=m->m<=9->wv1 A4 A5 sh v2 n cur m mid->∃l',vr5 (ps.map Pk.data) (ww6 n v2 m)=some l'/\P (Fl.nx [Sl.hnd,.bor (wu9 A4 A5 sh cur),.bor (za6 mid),.bor (.int many),.own (.lst l'),.bor (.int (0+(i:Int))),.bor (.int n),.bor (.int v2),.bor (ww6 n v2 m),.bor (za6 mid)]) st3:=λm mid m1 m9 hsm=>by
   refine⟨_,zx9 (zu0 ⟨n,v2,m⟩) (by rw[Aa0];omega),?_⟩;rw[hkd];refine pn _ _ ⟨ps++[⟨n,v2,m⟩],mid,_,_,_,_,_,by rw[Aw0];rfl,⟨hsm.ok hoc,hsm.len.trans hcl,hsm.kind.trans hck⟩,λp hp=>?_,by rw[An0];show _+1<=_;omega,by omega⟩;rcases Ay0.mp hp with hp | hp
   ·exact hpl p hp
   ·rw[Ae0.mp hp];exact⟨hn,hd,m1,m9⟩
  with_reducible refine yb3 (zn1 hoc) (by omega) hd (by omega) (by omega) (λm mid t hm hsm _ _=>?_) λnx hsn=>?_
  ·have i0:isI Bt.tuple (D.int m)=false:=rfl
   have lt0:((wx7 (λi j=>D.bl (decide (j<i))) (D.int m) (D.int 0)).bind D.bool?)=some (decide (0<(m:Int))):=rfl;by_cases hm0:0<m
   ·have d0:decide (0<(m:Int))=true:=Aj1 (by omega)
    have px0:oIx (ww6 n v2 k) (.int 0)=some (.int n):=rfl;have px1:oIx (ww6 n v2 k) (.int 1)=some (.int v2):=rfl;have ue:D.tup [.int n,.int v2,.int m]=ww6 n v2 m:=rfl;simp!;simp_all!;simp! [i0,lt0,d0,Co0];rw  [zb0];simp! [px0,px1,vl1];rw[ue];with_reducible refine yz1 (zn1 hoc) (by omega) hd (by omega) hsm ?_
    simp! [yl7,xe4];rw  [zb0];simp! [zk3,ww2,zc3];exact fin m mid (by omega) (by omega) hsm
   ·have d0:decide (0<(m:Int))=false:=Ai1 (by omega)
    simp!;simp_all!;simp! [i0,lt0,d0,Co0];rw[hkd];exact pn _ _ ⟨ps,cur,_,_,_,_,_,rfl,⟨hoc,hcl,hck⟩,hpl,by omega,by omega⟩
  ·rw[As0] at hsn
   simp_all!;simp! [yl7,xe4,Bool.not_true,Bz0];rw  [zb0];simp! [zk3,ww2,zc3];exact fin k nx k1 k9 hsn
 ·obtain⟨ps,cur,x5,x6,x7,x8,x9,er,hoc,hpl,hlen,hst⟩:=hI
  subst er;rw[Ah0,zd5] at hlen hst;simp! [zk3];exact hq ps _ hpl (by omega) (by omega)
def xq6{ps:List Pk}:D.depL (ps.map Pk.data)<=1:=zm7 (n:=1) (λa=>by simp[Pk.data,ww6,D.dep,D.depL]) ps
def vi9{i j:Int}:ww9 (.int i) (.int j)=some (.int (i+j)):=rfl
def wk6{k:Nat}:ve4 k p.data (ps.map Pk.data)=(ve4 k p ps).map Pk.data:=by
 unfold ve4;rw[Aw0,Ax0,List.map_take,List.map_drop]
def wk0{k:Nat}(h:q∈ve4 k p ps):q=p\/q∈ps:=by
 unfold ve4 at h;rcases Ay0.mp h with h | h
 ·exact .inr (List.mem_of_mem_take h)
 ·rcases Aj0.mp h with h | h
  ·exact .inl h
  ·exact .inr (List.mem_of_mem_drop h)
theorem xu4{k:Nat}{ps:List Pk}:(ps.map Pk.data).eraseIdx k=(ps.eraseIdx k).map Pk.data:=by
 induction ps generalizing k with
 | nil=>rfl
 | cons a l ih=>
   cases k with
   | zero=>rfl
   | succ k=>rw[Ax0,List.eraseIdx_cons_succ,List.eraseIdx_cons_succ,Ax0,ih]
def yp5:List D->Dr->Res Dr D:=vh4 6 3 (zs9 wx8).1
def xn8{A4 A5:Int}{sh:List ww1}{ts:List Tr}{ps:List Pk}{st:Dr}{Q:D->Dr->Prop}{E:Exn->Dr->Prop}(h0:0<ts.length)(few:ts.length<=12)(hs:st.2<2 ^ 39)(hp:∀p∈ps,Pk.lo ts.length p)(hl:ps.length<=60)(hq:∀(qs:List Pk) st',(∀p∈qs,Pk.ok ts.length p)->qs.length<=61->st'.2<=st.2+5->Q (.lst (qs.map Pk.data)) st'):wpR (yp5 [wu9 A4 A5 sh ts,.lst (ps.map Pk.data)] st) Q E:=by
 unfold yp5;refine yg9 rfl (by decide) ?_;unfold zs9;dsimp only;have hok:∀p∈ps,Pk.ok ts.length p:=λp h=>⟨(hp p h).1,(hp p h).2.1,(hp p h).2.2.1,by have:=(hp p h).2.2.2;omega⟩
 have ol:va9 [.tup (ts.map Tr.kind)]=some (.int (ts.length:Nat)):=by unfold va9;simp
 have olp:va9 [.lst (ps.map Pk.data)]=some (.int (ps.length:Nat)):=by unfold va9;simp
 have oli:vg9 [.lst (ps.map Pk.data)]=some (.lst (ps.map Pk.data)):=by show (if D.immL (ps.map Pk.data)=true then _ else _)=_;rw[if_pos zk3]
 have e0:oEq false (.lst (ps.map Pk.data)) (.lst [])=some (.bl (decide (ps=[]))):=by
  rw[wj9 (Av0 xq6 (by decide))];simp
 simp_all!;simp! [oli,zk3];simp_all!;simp!;refine zc7 (by decide) (by decide) (by omega) λv1 st1 a1 b1 c1=>?_
 simp!;simp_all!;simp! [olp,vi9];refine zc7 (by omega) (by omega) (by omega) λv2 st2 a2 b2 c2=>?_
 simp!;have l61:ps.length+1<=1000:=by omega
 have lim:(ps.map Pk.data).length<sizeLine:=by rw[Aa0];exact zj2 l61
 have hall3:oIx (wu9 A4 A5 sh ts) (.int 3)=some (.tup (ts.map Tr.kind)):=hall3';by_cases hc:v1=0\/ps=[]
 ·obtain⟨d1,d2⟩:∃b,(v1 == 0)=b/\(b=true\/(b=false/\decide (ps=[])=true)):=by
   by_cases h:v1=0
   ·exact⟨true,beq_iff_eq.mpr h,.inl rfl⟩
   ·exact⟨false,beq_eq_false_iff_ne.mpr h,.inr ⟨rfl,Aj1 (hc.resolve_left h)⟩⟩
  rcases d2 with⟨d2,rfl | ⟨rfl,d3⟩⟩
  case' inl=>have d3:=True.intro
  all_goals
   simp_all!;simp! [zi9,va0,e0,d2,d3,yz0,hall3,ol,ww2,zk3];refine zc7 (by omega) (by omega) (by omega) λv3 st3 a3 b3 c3=>?_
   simp!;refine zc7 (by decide) (by decide) (by omega) λv4 st4 a4 b4 c4=>?_
   simp!;refine zc7 (by decide) (by decide) (by omega) λv5 st5 a5 b5 c5=>?_
   have t3:vb4 [D.int v3,.int v4,.int (1+v5)]=some (Pk.data ⟨v3.toNat,v4,(1+v5).toNat⟩):=by
    have:Pk.data ⟨v3.toNat,v4,(1+v5).toNat⟩=.tup [D.int v3,.int v4,.int (1+v5)]:=by
     unfold Pk.data ww6;rw[Int.toNat_of_nonneg a3,Int.toNat_of_nonneg (by omega)]
    rw[this];exact zi7 (by simp[D.immL,D.imm]) (by simp)
   have oi:vr2 (ps.map Pk.data) [.int v2,Pk.data ⟨v3.toNat,v4,(1+v5).toNat⟩]=some ((ve4 v2.toNat ⟨v3.toNat,v4,(1+v5).toNat⟩ ps).map Pk.data):=by
    rw[<-wk6];exact if_pos ⟨zu0 _,a2,by rw[Aa0];omega,lim⟩
   simp! [vi9,t3,oi];simp! [zk3];refine hq _ _ (λp hp=>?_) (by rw[yj5];omega) (by omega);rcases wk0 hp with h | h
   ·rw[h];exact⟨by show v3.toNat<_;omega,⟨a4,b4⟩,by show 1<=(1+v5).toNat;omega,by show (1+v5).toNat<=900;omega⟩
   ·exact hok p h
 ·have hne:ps≠[]:=λz=>hc (.inr z)
  have d1:(v1 == 0)=false:=beq_eq_false_iff_ne.mpr λz=>hc (.inl z)
  have d2:decide (ps=[])=false:=Ai1 hne;have hpos:0<ps.length:=List.length_pos_iff.mpr hne;obtain h | h | h:v1=1\/v1=2\/v1=3:=by
   have:v1≠0:=λz=>hc (.inl z)
   omega
  ·have d3:(v1 == 1)=true:=beq_iff_eq.mpr h
   simp_all!;simp! [zi9,va0,e0,d1,d2,d3];rw  [zb0];simp! [olp];refine zc7 (by omega) (by omega) (by omega) λv3 st3 a3 b3 c3=>?_
   obtain⟨p,hpi⟩:∃p,ps[v3.toNat]?=some p:=⟨_,Ad0 (by omega)⟩;have ix:oIx (.lst (ps.map Pk.data)) (.int v3)=some p.data:=(zx5 (l:=ps.map Pk.data) (zu0 p) a3 (by rw[Ag0,hpi];rfl)).1;have i0:oIx p.data (.int 0)=some (.int p.n):=rfl;have i1:oIx p.data (.int 1)=some (.int p.d):=rfl;have i2:oIx p.data (.int 2)=some (.int p.k):=rfl;simp! [ix,i0,i1,i2,vi9];refine zc7 (by decide) (by decide) (by omega) λv4 st4 a4 b4 c4=>?_
   have t3:vb4 [D.int p.n,.int p.d,.int (p.k+1+v4)]=some (Pk.data ⟨p.n,p.d,p.k+1+v4.toNat⟩):=by
    have:Pk.data ⟨p.n,p.d,p.k+1+v4.toNat⟩=.tup [D.int p.n,.int p.d,.int (p.k+1+v4)]:=by
     show D.tup [D.int p.n,.int p.d,.int ((p.k+1+v4.toNat:Nat):Int)]=_;rw[show ((p.k+1+v4.toNat:Nat):Int)=p.k+1+v4 by omega]
    rw[this];exact zi7 (by simp[D.immL,D.imm]) (by simp)
   have nx:ixN (ps.map Pk.data).length v3=some v3.toNat:=by
    unfold ixN;rw[if_pos a3,if_pos (by rw[Aa0];omega)]
   simp! [vi9,t3,ww2,zk3,zu0];refine⟨v3,_,rfl,nx,?_⟩;rw[<-List.map_set];simp! [zk3];refine hq _ _ (λq hq=>?_) (by rw[Bu0];omega) (by omega);rcases List.mem_or_eq_of_mem_set hq with h | h
   ·exact hok q h
   ·have:=hp p (Ai0 hpi)
    rw[h];exact⟨this.1,this.2.1,by show 1<=p.k+1+v4.toNat;omega,by have:=this.2.2.2;show p.k+1+v4.toNat<=900;omega⟩
  ·have d3:(v1 == 1)=false:=beq_eq_false_iff_ne.mpr (by omega)
   have d4:(v1 == 2)=true:=beq_iff_eq.mpr h;simp_all!;simp! [zi9,va0,e0,d1,d2,d3,d4,yz0,olp,ww2,zk3];refine zc7 (by omega) (by omega) (by omega) λv3 st3 a3 b3 c3=>?_
   have oi:vl2 (ps.map Pk.data) [.int v3]=some ((ps.eraseIdx v3.toNat).map Pk.data):=by
    rw[<-xu4];exact if_pos ⟨a3,by rw[Aa0];exact b3,Nat.le_of_lt lim⟩
   simp! [oi];simp! [zk3];exact hq _ _ (λq hq=>hok q (List.mem_of_mem_eraseIdx hq)) (Av0 (yj1 _ _) (by omega)) (by omega)
  ·have d3:(v1 == 1)=false:=beq_eq_false_iff_ne.mpr (by omega)
   have d4:(v1 == 2)=false:=beq_eq_false_iff_ne.mpr (by omega);simp_all!;simp! [zi9,va0,e0,d1,d2,d3,d4];simp! [zk3];exact hq _ _ hok (by omega) (by omega)
section
variable{A4 A5:Int}{sh:List ww1}{d:Int}{n:Nat}{ts cur mid:List Tr}{k i j:Nat}{t t1:Tr}{ps:List Pk}{p:Pk}{ss:List (List Tr)}
def wv1.stop(h:wv1 A4 A5 sh d n ts k cur)(h2:wv1 A4 A5 sh d n ts i mid)(ht:mid[n]?=some t)(no:zr1 A4 A5 sh mid d n t):k<=i:=by
 apply Classical.byContradiction;intro hlt;obtain⟨m2,g,hm,hg⟩:=h.pre i (by omega);have:=hm.det h2;subst this;exact hg.not ht no
theorem wv2.inv(h:wv2 A4 A5 sh ts (ps++[p]) ss cur):∃s0 m,ss=s0++[cur]/\wv2 A4 A5 sh ts ps s0 m/\wv1 A4 A5 sh p.d p.n m p.k cur:=by
 generalize e:ps++[p]=l at h;cases h with
 | nil=>simp at e
 | @snoc qs s0 m _ q h1 h2=>
   obtain⟨e1,e2⟩:=List.append_inj' e rfl;have e2:p=q:=by simpa using e2
   subst e1 e2;exact⟨s0,m,rfl,h1,h2⟩
theorem wv2.det(h:wv2 A4 A5 sh ts ps ss cur):∀{s2:List (List Tr)} {c2:List Tr},wv2 A4 A5 sh ts ps s2 c2->ss=s2/\cur=c2:=by
 induction h with
 | nil=>
   intro s2 c2 hb;generalize e:([]:List Pk)=l at hb;cases hb with
   | nil=>exact⟨rfl,rfl⟩
   | snoc=>simp at e
 | snoc _ hs ih=>
   intro s2 c2 hb;obtain⟨s0,m,e,h1,h2⟩:=hb.inv;obtain⟨e1,e2⟩:=ih h1;subst e1 e2;have:=hs.det h2;subst this;exact⟨e.symm,rfl⟩
theorem wv2.at(h:wv2 A4 A5 sh ts ps ss cur):∀{i:Nat} {p:Pk},ps[i]?=some p->∃s0 m nx,wv2 A4 A5 sh ts (ps.take i) s0 m/\wv1 A4 A5 sh p.d p.n m p.k nx:=by
 induction h with
 | nil=>intro i p e;simp at e
 | @snoc qs s0 m nx q h1 h2 ih=>
   intro i p e;by_cases hi:i<qs.length
   ·rw[Aq0 hi] at e
    obtain⟨a,b,c,h3,h4⟩:=ih e;exact⟨a,b,c,by rw[List.take_append_of_le_length (by omega)];exact h3,h4⟩
   ·have hl:=(Ac0.mp e).1
    rw[An0,List.length_singleton] at hl;have hi2:i=qs.length:=by omega
    subst hi2;rw[Cf0] at e;cases e;exact⟨s0,m,nx,by rw[List.take_left'];exact h1;rfl,h2⟩
def vf6(A4 A5:Int)(sh:List ww1)(ts:List Tr)(ps:List Pk)(i j:Nat):Prop:=∃ss cur p mid t,wv2 A4 A5 sh ts (ps.take i) ss cur/\ps[i]?=some p/\j<p.k/\wv1 A4 A5 sh p.d p.n cur j mid/\mid[p.n]?=some t/\zr1 A4 A5 sh mid p.d p.n t
def vf6.none(h:vf6 A4 A5 sh ts ps i j)(c:wv2 A4 A5 sh ts ps ss cur):False:=by
 obtain⟨s1,c1,p,m,t,h1,h2,h3,h4,h5,h6⟩:=h;obtain⟨s0,m0,nx,g1,g2⟩:=c.at h2;obtain⟨_,e⟩:=h1.det g1;subst e;have:=g2.stop h4 h5 h6;omega
def vf6.le{i2 j2:Nat}(h:vf6 A4 A5 sh ts ps i j)(g:vf6 A4 A5 sh ts ps i2 j2):i2<=i:=by
 apply Classical.byContradiction;intro hlt;obtain⟨s1,c1,p,m,t,h1,h2,h3,h4,h5,h6⟩:=h;obtain⟨s2,c2,p2,m2,t2,g1,_⟩:=g;obtain⟨s0,m0,nx,k1,k2⟩:=g1.at (i:=i) (p:=p) (by rw[List.getElem?_take_of_lt (by omega)];exact h2);rw[List.take_take,Nat.min_eq_left (by omega)] at k1;obtain⟨_,e⟩:=h1.det k1;subst e;have:=k2.stop h4 h5 h6;omega
def vf6.one{i2 j2:Nat}(h:vf6 A4 A5 sh ts ps i j)(g:vf6 A4 A5 sh ts ps i2 j2):i=i2/\j=j2:=by
 have e:i=i2:=Nat.le_antisymm (g.le h) (h.le g);subst e;refine⟨rfl,?_⟩;obtain⟨s1,c1,p,m,t,h1,h2,h3,h4,h5,h6⟩:=h;obtain⟨s2,c2,p2,m2,t2,g1,g2,g3,g4,g5,g6⟩:=g;obtain⟨_,e⟩:=h1.det g1;subst e;rw[h2] at g2;cases g2;have:=h4.stop g4 g5 g6;have:=g4.stop h4 h5 h6;omega
end
section
variable{A4 A5:Int}{sh:List ww1}{ts cur:List Tr}{ps:List Pk}{ss:List (List Tr)}
theorem wv2.get(h:wv2 A4 A5 sh ts ps ss cur):∀{i:Nat} {p:Pk},ps[i]?=some p->∃a b,(ts::ss)[i]?=some a/\(ts::ss)[i+1]?=some b/\wv1 A4 A5 sh p.d p.n a p.k b:=by
 induction h with
 | nil=>intro i p e;simp at e
 | @snoc qs s0 m nx q h1 h2 ih=>
   intro i p e;have hlen:=h1.many;by_cases hi:i<qs.length
   ·rw[Aq0 hi] at e
    obtain⟨a,b,g1,g2,g3⟩:=ih e;refine⟨a,b,?_,?_,g3⟩
    ·rw[<-Bx0,Aq0 (by rw[Au0];omega)];exact g1
    ·rw[<-Bx0,Aq0 (by rw[Au0];omega)];exact g2
   ·have hl:=(Ac0.mp e).1
    rw[An0,List.length_singleton] at hl;have hi2:i=qs.length:=by omega
    subst hi2;rw[Cf0] at e;cases e;refine⟨m,nx,?_,?_,h2⟩
    ·rw[<-Bx0,Aq0 (by rw[Au0];omega)];exact h1.last
    ·rw[List.getElem?_cons_succ,<-hlen];exact Cf0
theorem wv2.all(h:wv2 A4 A5 sh ts ps ss cur)(ho:zd7 A4 A5 sh ts):∀a∈ts::ss,zd7 A4 A5 sh a/\a.length=ts.length/\a.map Tr.kind=ts.map Tr.kind:=by
 induction h with
 | nil=>intro a ha;rw[Ae0.mp ha];exact⟨ho,rfl,rfl⟩
 | @snoc qs s0 m nx q h1 h2 ih=>
   intro a ha;rw[<-Bx0] at ha;rcases Ay0.mp ha with ha | ha
   ·exact ih a ha
   ·rw[Ae0.mp ha]
    exact⟨h2.ok (h1.ok ho),h2.len.trans h1.len,h2.kind.trans h1.kind⟩
end
def wz6(W:List (List Tr))(i:Nat)(p:Pk):Option Pk:=if zl0 (W.getD i []) (W.getD (i+1) [])=[p.n] then some ⟨p.n,opp p.d,p.k⟩ else none
def vd5:Option Pk->D
 | some p=>p.data
 | none=>.non
def ww3(W:List (List Tr))(ps:List Pk):List (Option Pk):=ps.zipIdx.map λx=>wz6 W x.2 x.1
def zv7{W:List (List Tr)}{ps:List Pk}:(ww3 W ps).length=ps.length:=by unfold ww3;rw[Aa0,List.length_zipIdx]
def zv8{W:List (List Tr)}{ps:List Pk}{i:Nat}{p:Pk}(h:ps[i]?=some p):(ww3 W ps)[i]?=some (wz6 W i p):=by
 unfold ww3;rw[Ag0,List.getElem?_zipIdx,h];simp
theorem wa0(x:Option Pk):(vd5 x).imm=true:=by cases x with
 | none=>rfl
 | some p=>exact zu0 p
def zv2{α:Type}{l:List α}{i:Nat}{x d:α}(h:l[i]?=some x):l.getD i d=x:=by rw[Bl0,h];rfl
def zd3(ps:List Pk):List Pk:=(ps.map λp=>⟨p.n,opp p.d,p.k⟩).reverse
theorem xr8{l:List (Option Pk)}:(l.map vd5).any D.isN=l.any Option.isNone:=by
 induction l with
 | nil=>rfl
 | cons a l ih=>
   rw[Ax0,List.any_cons,List.any_cons,ih];cases a<;>rfl
theorem wa1{l:List (Option Pk)}:∀d∈l.map vd5,d=.non\/∃m,d=.tup m:=λd hd=>by
 obtain⟨x,_,rfl⟩:=Bo0.mp hd;cases x with
 | none=>exact .inl rfl
 | some p=>exact .inr ⟨_,rfl⟩
def yd2:List D->Res Unit D:=dfn 5 3 (zo5 yb7 (noX vd1)).1
def xd1{A4 A5:Int}{sh:List ww1}{ts:List Tr}{ps:List Pk}{Q:D->Unit->Prop}{E:Exn->Unit->Prop}(ho:zd7 A4 A5 sh ts)(hp:∀p∈ps,p.ok ts.length)(hl:ps.length<=900)(hN:∀(i j:Nat),vf6 A4 A5 sh ts ps i j->E ⟨"Barred",[.int i,.int j]⟩ ())(hq:∀ss cur,wv2 A4 A5 sh ts ps ss cur->Q (if (ww3 (ts::ss) ps).any Option.isNone then .non else .lst ((ww3 (ts::ss) ps).map vd5).reverse) ()):wpR (yd2 [wu9 A4 A5 sh ts,za6 ts,.lst (ps.map Pk.data)]) Q E:=by
 have go:=@zg3 5 3 (zo5 yb7 (noX vd1)).1 [wu9 A4 A5 sh ts,za6 ts,.lst (ps.map Pk.data)] Q E (by simp) (by decide);unfold yd2;with_reducible refine go ?_
 clear go;unfold zo5;dsimp only;have sim:∀l:List (List Tr),D.immL (l.map za6)=true:=λl=>zb5 (λ_=>zc3) l
 have pim:D.immL (ps.map Pk.data)=true:=zb5 zu0 ps;have en:yi3 0 [.lst (ps.map Pk.data)]=some (vh8 0 (ps.map Pk.data)):=rfl;simp_all!;simp! [yg8];have hN':∀(i j:Nat) ss cur p mid t,wv2 A4 A5 sh ts (ps.take i) ss cur->ps[i]?=some p->j<p.k->wv1 A4 A5 sh p.d p.n cur j mid->mid[p.n]?=some t->zr1 A4 A5 sh mid p.d p.n t->E ⟨"Barred",[.int i,.int j]⟩ ():=λi j s1 c1 p m t h1 h2 h3 h4 h5 h6=>hN i j ⟨s1,c1,p,m,t,h1,h2,h3,h4,h5,h6⟩
 with_reducible refine xo0 ho hp hl hN' λss cur hc=>?_
 simp! [sim,zc3];simp_all!;simp! [en,sim,zc3];refine zr2 (λi acc ρ st'=>∃x y,acc=((ww3 (ts::ss) ps).take i).map vd5/\ρ=[x,y,.bor (wu9 A4 A5 sh ts),.bor (.lst ((ts::ss).map za6))]) 0 ⟨_,_,rfl,rfl⟩ (λi e acc ρ st' he hI=>?_) λacc ρ st' hI=>?_
 ·obtain⟨x,y,ea,er⟩:=hI
  rw[Ah0] at ea ⊢;subst er;obtain⟨z,hz,rfl⟩:=zz8 he;rw[Ag0] at hz;cases q:ps[i]? with
  | none=>rw[q] at hz;cases hz
  | some p=>
    rw[q] at hz;have e1:p.data=z:=Option.some.inj hz;subst e1;obtain⟨p1,p2,p3,p4⟩:=hp p (Ai0 q);have hil:i<ps.length:=(Ac0.mp q).1;obtain⟨a,b,ga,gb,hst⟩:=hc.get q;obtain⟨hoa,hla,hka⟩:=hc.all ho a (Ai0 ga);have ht:a[p.n]?=some (a[p.n]'(by rw[hla];exact p1)):=Ad0 _;have ix:oIx (.lst (za6 ts::ss.map za6)) (.int (i+0:Nat))=some (za6 a):=(zx5 (l:=(ts::ss).map za6) zc3 (by omega) (by rw[Nat.add_zero,As0,Ag0,ga];rfl)).1;have pd:p.data=ww6 p.n p.d p.k:=rfl;have k1000:p.k<=1000:=by omega
    have eb:wz6 (ts::ss) i p=if zl0 a b=[p.n] then some ⟨p.n,opp p.d,p.k⟩ else none:=by
     unfold wz6;rw[zv2 ga,zv2 gb]
    have tk:((ww3 (ts::ss) ps).take (i+1)).map vd5=acc++[vd5 (wz6 (ts::ss) i p)]:=by
     rw[Ba0,zv8 q,ea,Aw0];rfl
    have hlen:acc.length<sizeLine:=lt_size (by rw[ea,Aa0,Bf0];omega);refine⟨_,rfl,?_⟩;simp! [ix];rw[pd,<-ze3 hka];with_reducible refine wd1 ?_
    with_reducible refine xy0 hoa ht p2 k1000 (λj mid t1 hj hm h1 no=>?_) (λc2 h2 hm=>?_) λc2 h2 hm=>?_
    ·have:=hst.stop hm h1 no
     omega
    ·have:=h2.det hst
     subst this;rw[if_pos hm] at eb;rw[ze3 hka];simp!;refine⟨by first | rfl | exact xe7,hlen,_,_,?_,rfl⟩;rw[tk,eb];rfl
    ·have:=h2.det hst
     subst this;rw[if_neg hm] at eb;rw[ze3 hka];simp!;refine⟨hlen,_,_,?_,rfl⟩;rw[tk,eb];rfl
 ·obtain⟨x,y,ea,er⟩:=hI
  rw[Ah0,zn4,Aa0,<-zv7 (W:=ts::ss),Be0] at ea;subst ea;have oim:D.immL ((ww3 (ts::ss) ps).map vd5)=true:=zb5 wa0 _;have on:=wj8 (wa1 (l:=ww3 (ts::ss) ps));rw[xr8] at on;have hq:=hq ss cur hc;simp only[oim];simp_all!;simp! [on];by_cases hb:(ww3 (ts::ss) ps).any Option.isNone=true
  ·rw[if_pos hb] at hq
   simp! [hb];exact hq
  ·rw[if_neg hb] at hq
   have hb:(ww3 (ts::ss) ps).any Option.isNone=false:=Bool.eq_false_iff.mpr hb;have orv:vo5 (.lst ((ww3 (ts::ss) ps).map vd5))=some (.lst ((ww3 (ts::ss) ps).map vd5).reverse):=if_pos oim;have rim:D.immL ((ww3 (ts::ss) ps).map vd5).reverse=true:=yf8.mpr λd hd=>zs5 oim (List.mem_reverse.mp hd)
   simp! [hb,vs6,orv];exact⟨.inr rim,hq⟩
def yd5{ps:List Pk}{p:Pk}:zd3 (ps++[p])=⟨p.n,opp p.d,p.k⟩::zd3 ps:=by
 unfold zd3;rw[Aw0,List.reverse_append];rfl
def wc2{neg:Bool}{a b:List Nat}:oEq neg (.lst (wv4 a)) (.lst (wv4 b))=some (.bl (if neg then !decide (a=b) else decide (a=b))):=by
 have h:(D.lst (wv4 a)).dep<=30:=by have:=xf8 a;unfold D.dep;omega
 have e:D.eqq (.lst (wv4 a)) (.lst (wv4 b))=some (decide (a=b)):=by
  show (if (wv4 a).length=(wv4 b).length then D.eqL (wv4 a) (wv4 b) else some false)=_;by_cases hl:(wv4 a).length=(wv4 b).length
  ·rw[if_pos hl,yr3]
  ·rw[if_neg hl]
   unfold wv4 at hl;rw[Aa0,Aa0] at hl;rw[Ai1 λz=>hl (by rw[z])]
 unfold oEq;rw[if_pos h,e];rfl
def vx7:List D->Res Unit D:=dfn 8 3 yd0.1
def wn3{A4 A5:Int}{sh:List ww1}{ts cur:List Tr}{ps:List Pk}{ss:List (List Tr)}{Q:D->Unit->Prop}{E:Exn->Unit->Prop}(ho:zd7 A4 A5 sh ts)(hp:∀p∈ps,p.ok ts.length)(hl:ps.length<=900)(hc:wv2 A4 A5 sh ts ps ss cur)(hq:Q (if (ww3 (ts::ss) ps).any Option.isNone then .non else .lst ((zd3 ps).map Pk.data)) ()):wpR (vx7 [wu9 A4 A5 sh ts,.lst ((ts::ss).map za6),.lst (ps.map Pk.data)]) Q E:=by
 unfold vx7;refine zg3 rfl (by decide) ?_;unfold yd0;dsimp only;have en:yi3 0 [.lst (ps.map Pk.data)]=some (vh8 0 (ps.map Pk.data)):=rfl;simp_all!;simp! [va0];rw  [zb0];simp! [en];refine yg7 (λi ρ st'=>∃(x4 x5 x6 x7:Sl),ρ=[Sl.bor (wu9 A4 A5 sh ts),.bor (.lst ((ts::ss).map za6)),.bor (.lst (ps.map Pk.data)),.own (.lst ((zd3 (ps.take i)).map Pk.data)),x4,x5,x6,x7]/\((ww3 (ts::ss) ps).take i).any Option.isNone=false) 0 ⟨_,_,_,_,rfl,rfl⟩ (λi e ρ st' he hI P pn pr=>?_) λρ st' hI=>?_
 ·obtain⟨x4,x5,x6,x7,er,hno⟩:=hI
  rw[Ah0] at hno pn;subst er;obtain⟨z,hz,rfl⟩:=zz8 he;rw[Ag0] at hz;cases q:ps[i]? with
  | none=>rw[q] at hz;cases hz
  | some p=>
    rw[q] at hz;have e1:p.data=z:=Option.some.inj hz;subst e1;obtain⟨p1,p2,p3,p4⟩:=hp p (Ai0 q);have hil:i<ps.length:=(Ac0.mp q).1;obtain⟨a,b,ga,gb,hst⟩:=hc.get q;obtain⟨hoa,hla,hka⟩:=hc.all ho a (Ai0 ga);have few:=hoa.few;have ix1:oIx (.lst (za6 ts::ss.map za6)) (.int (i+0:Nat))=some (za6 a):=(zx5 (l:=(ts::ss).map za6) zc3 (by omega) (by rw[Nat.add_zero,As0,Ag0,ga];rfl)).1;have ix2:oIx (.lst (za6 ts::ss.map za6)) (.int ((i+0:Nat)+1))=some (za6 b):=(zx5 (l:=(ts::ss).map za6) zc3 (by omega) (by rw[Nat.add_zero,show ((i:Int)+1).toNat=i+1 by omega,Ag0,gb];rfl)).1;have t2:vb4 [za6 a,za6 b]=some (.tup [za6 a,za6 b]):=zi7 (by simp[D.immL,zc3]) (by simp);have len:va9 [za6 a]=some (.int a.length):=by unfold za6 va9;simp
    have ad:ww9 (.int (i+0:Nat)) (.int 1)=some (.int ((i+0:Nat)+1)):=rfl;have px0:oIx p.data (.int 0)=some (.int p.n):=rfl;have px1:oIx p.data (.int 1)=some (.int p.d):=rfl;have px2:oIx p.data (.int 2)=some (.int p.k):=rfl;have l1:ve0 [D.int p.n]=some (.lst (wv4 [p.n])):=zi8 (by simp[D.immL,D.imm]) (by simp);have eb:wz6 (ts::ss) i p=if zl0 a b=[p.n] then some ⟨p.n,opp p.d,p.k⟩ else none:=by
     unfold wz6;rw[zv2 ga,zv2 gb]
    have tk:((ww3 (ts::ss) ps).take (i+1)).any Option.isNone=(wz6 (ts::ss) i p).isNone:=by
     rw[Ba0,zv8 q,List.any_append,hno];simp
    have got:(ww3 (ts::ss) ps).any Option.isNone=true\/(wz6 (ts::ss) i p).isNone=false:=by
     cases hb:(wz6 (ts::ss) i p).isNone with
     | false=>exact .inr rfl
     | true=>exact .inl (Cj0.mpr ⟨_,Ai0 (zv8 q),hb⟩)
    refine⟨_,rfl,?_⟩;simp_all!;simp! [ix1,ix2,ad,t2,zc3];simp_all!;simp! [len];rw[zf0 (by omega) (by omega)];refine zr2 (λm acc ρ st'=>∃x,acc=wv4 ((List.range m).filter λj=>!decide ((b[j]?).map Tr.pos=(a[j]?).map Tr.pos))/\ρ=[x,.bor (za6 a),.bor (za6 b)]) 0 ⟨_,rfl,rfl⟩ (λm e acc ρ st' he hI=>?_) λacc ρ st' hI=>?_
    ·obtain⟨x,ea,er⟩:=hI
     obtain⟨rfl,hm⟩:=ze9 he;rw[As0] at hm;subst er;rw[Ah0] at ea ⊢;have k0:(0:Int)+(m:Int)=(m:Int):=by omega
     obtain⟨t,ht⟩:∃t,a[m]?=some t:=⟨_,Ad0 hm⟩;obtain⟨u,hu⟩:∃u,b[m]?=some u:=⟨_,Ad0 (by rw[hst.len];exact hm)⟩;have q1:oIx (za6 b) (.int m)=some u.place:=zj4 hu;have q2:oIx (za6 a) (.int m)=some t.place:=zj4 ht;refine⟨_,rfl,?_⟩;rw[k0];simp! [q1,q2,yv3];have hs:(List.range (m+1)).filter (λj=>!decide ((b[j]?).map Tr.pos=(a[j]?).map Tr.pos))=(List.range m).filter (λj=>!decide ((b[j]?).map Tr.pos=(a[j]?).map Tr.pos))++(if t.pos=u.pos then [] else [m]):=by
      rw[List.range_succ,List.filter_append];by_cases h:t.pos=u.pos
      ·simp[hu,ht,h]
      ·simp[hu,ht,h,Ne.symm h]
     rw[hs];have hlc:acc.length<=m:=by
      rw[ea];unfold wv4;rw[Aa0];exact Av0 (List.length_filter_le _ _) (by simp)
     by_cases h:t.pos=u.pos
     ·rw[if_pos h,Az0]
      simp only[h,decide_true,Bool.not_true,Bz0,if_false];exact⟨_,ea,rfl⟩
     ·rw[if_neg h]
      simp only[h,decide_false,Co0,if_true];refine⟨lt_size (by omega),_,?_,rfl⟩;rw[ea];unfold wv4;rw[Aw0];rfl
    ·obtain⟨x,ea,er⟩:=hI
     rw[Ah0,zd5,As0] at ea;have ea:acc=wv4 (zl0 a b):=ea;subst ea;simp! [px0,l1,wc2];by_cases hm:zl0 a b=[p.n]
     ·rw[if_pos hm] at eb
      have i4:iOp (λ_ j=>0<j) (λi j=>D.int (i % j)) (.int (p.d+2)) (.int 4)=some (.int ((p.d+2) % 4)):=yw9 (C:=λ_ j=>0<j) (by decide);have ad2:ww9 (.int p.d) (.int 2)=some (.int (p.d+2)):=rfl;have t3:vb4 [D.int p.n,.int ((p.d+2) % 4),.int p.k]=some (Pk.data ⟨p.n,opp p.d,p.k⟩):=zi7 (by simp[D.immL,D.imm]) (by simp);have rim:D.immL ((zd3 (ps.take i)).map Pk.data)=true:=zb5 zu0 _;have rl:(zd3 (ps.take i)).length<=i:=by
       unfold zd3;rw[List.length_reverse,Aa0,Bf0];omega
      have oi:vr2 ((zd3 (ps.take i)).map Pk.data) [.int 0,Pk.data ⟨p.n,opp p.d,p.k⟩]=some (Pk.data ⟨p.n,opp p.d,p.k⟩::(zd3 (ps.take i)).map Pk.data):=if_pos ⟨zu0 _,by decide,by omega,lt_size (by rw[Aa0];omega)⟩;simp! [hm,decide_true,Bool.not_true,Bz0,if_false,yz0,px0,px1,px2,ad2,i4,t3,ww2,rim,oi];have rb:(zd3 (ps.take (i+1))).map Pk.data=Pk.data ⟨p.n,opp p.d,p.k⟩::(zd3 (ps.take i)).map Pk.data:=by
       rw[Ba0,q];show (zd3 (ps.take i++[p])).map Pk.data=_;rw[yd5];rfl
      exact pn _ _ ⟨_,_,_,_,by rw[rb];rfl,by rw[tk,eb];rfl⟩
     ·rw[if_neg hm] at eb
      rw[eb] at got;have got:(ww3 (ts::ss) ps).any Option.isNone=true:=got.resolve_right (by simp);rw[if_pos got] at hq;simp! [hm,decide_false,Co0,if_true];exact pr _ _ hq
 ·obtain⟨x4,x5,x6,x7,er,hno⟩:=hI
  rw[Ah0,zn4,Aa0] at hno er;rw[<-zv7 (W:=ts::ss),Be0] at hno;rw[Be0] at er;subst er;have rim:D.immL ((zd3 ps).map Pk.data)=true:=zb5 zu0 _;rw[if_neg (by rw[hno];decide)] at hq;simp! [rim];exact hq
section
variable{A4 A5:Int}{sh:List ww1}{ts cur m c:List Tr}{ps qs:List Pk}{ss s2:List (List Tr)}
theorem wv2.append(h:wv2 A4 A5 sh ts ps ss m)(g:wv2 A4 A5 sh m qs s2 c):wv2 A4 A5 sh ts (ps++qs) (ss++s2) c:=by
 induction g with
 | nil=>rw[Az0,Az0];exact h
 | snoc _ hs ih=>rw[<-Cb0,<-Cb0];exact .snoc ih hs
theorem wv2.back(h:wv2 A4 A5 sh ts ps ss cur)(ho:zd7 A4 A5 sh ts)(hp:∀p∈ps,p.ok ts.length)(no:∀i p a b,ps[i]?=some p->(ts::ss)[i]?=some a->(ts::ss)[i+1]?=some b->zl0 a b=[p.n]):∃s2,wv2 A4 A5 sh cur (zd3 ps) s2 ts:=by
 induction h with
 | nil=>exact⟨[],.nil⟩
 | @snoc qs s0 m nx q h1 h2 ih=>
   have hlen:=h1.many;obtain⟨s2,hb⟩:=ih (λp hp'=>hp p (Ay0.mpr (.inl hp'))) λi p a b e1 e2 e3=>by
    have hi:i<qs.length:=(Ac0.mp e1).1;refine no i p a b (by rw[Aq0 hi];exact e1) ?_ ?_
    ·rw[<-Bx0,Aq0 (by rw[Au0];omega)];exact e2
    ·rw[<-Bx0,Aq0 (by rw[Au0];omega)];exact e3
   obtain⟨q1,q2,q3,q4⟩:=hp q (Ay0.mpr (.inr (Ae0.mpr rfl)));have hom:=h1.ok ho;have ht:m[q.n]?=some (m[q.n]'(by rw[h1.len];exact q1)):=Ad0 _;have to:=hom.tr _ (Ai0 ht);have mv:=no qs.length q m nx Cf0 (by rw[<-Bx0,Aq0 (by rw[Au0];omega)];exact h1.last) (by rw[List.getElem?_cons_succ,<-hlen];exact Cf0);have al:=(xw7 q2 q3 ht to.w1 to.h1 h2).mp mv;have rv:=wv1.rev hom q2 ht h2 al;rw[yd5];exact⟨_,wv2.append (wv2.snoc (p:=⟨q.n,opp q.d,q.k⟩) wv2.nil rv) hb⟩
def yo9(hc:wv2 A4 A5 sh ts ps ss cur)(no:(ww3 (ts::ss) ps).any Option.isNone=false):∀i p a b,ps[i]?=some p->(ts::ss)[i]?=some a->(ts::ss)[i+1]?=some b->zl0 a b=[p.n]:=λi p a b e1 e2 e3=>by
 apply Classical.byContradiction;intro hm;have eb:wz6 (ts::ss) i p=none:=by
  unfold wz6;rw[zv2 e2,zv2 e3,if_neg hm]
 have:(ww3 (ts::ss) ps).any Option.isNone=true:=Cj0.mpr ⟨_,Ai0 (zv8 e1),by rw[eb];rfl⟩;rw[no] at this;cases this
def yy7(hc:wv2 A4 A5 sh ts ps ss cur)(no:(ww3 (ts::ss) ps).any Option.isNone=false):((ww3 (ts::ss) ps).map vd5).reverse=(zd3 ps).map Pk.data:=by
 have e:(ww3 (ts::ss) ps).map vd5=ps.map λp=>Pk.data ⟨p.n,opp p.d,p.k⟩:=by
  apply Cn0;intro i;rw[Ag0,Ag0];cases q:ps[i]? with
  | none=>
    have:(ww3 (ts::ss) ps)[i]?=none:=by
     rw[Bm0,zv7];exact Bm0.mp q
    rw[this];rfl
  | some p=>
    obtain⟨a,b,ga,gb,_⟩:=hc.get q;rw[zv8 q];unfold wz6;rw[zv2 ga,zv2 gb,if_pos (yo9 hc no i p a b q ga gb)];rfl
 unfold zd3;rw[e,List.map_reverse,Bt0];rfl
end
def ye4{i j:Nat}:(D.tup [.str "barred",.int i,.int j]).dep<5/\(D.tup [.str "barred",.int i,.int j]).lw=true:=by
 constructor
 ·simp[D.dep,D.depL]
 ·simp only[D.lw,D.lwL,Bool.true_and,Bool.and_true,decide_eq_true_eq]
  show 3<=sizeLine;decide
def xe0(h:d.dep<=3/\d.lw=true):(D.tup [.str "told",d]).dep<5/\(D.tup [.str "told",d]).lw=true:=by
 constructor
 ·simp only[D.dep,D.depL];omega
 ·simp only[D.lw,D.lwL,h.2,Bool.true_and,Bool.and_true,decide_eq_true_eq]
  show 2<=sizeLine;decide
def xq5{ps:List Pk}(h:ps.length<=1000):(D.lst (ps.map Pk.data)).dep<=3/\(D.lst (ps.map Pk.data)).lw=true:=by
 constructor
 ·have:=xq6 (ps:=ps)
  simp only[D.dep];omega
 ·have lw:D.lwL (ps.map Pk.data)=true:=yq8.mpr λd hd=>by
   obtain⟨j,_,rfl⟩:=Bo0.mp hd;rfl
  simp only[D.lw,lw,Bool.true_and,decide_eq_true_eq];exact zj2 (by rw[Aa0];exact h)
def xy7{ts:List Tr}(h:ts.length<=12):oEq false (za6 ts) (za6 ts)=some (.bl true):=by
 refine wa7 ?_ ?_
 ·have:D.lwL (ts.map Tr.place)=true:=yq8.mpr λd hd=>by
   obtain⟨j,_,rfl⟩:=Bo0.mp hd;rfl
  unfold za6;simp only[D.lw,this,Bool.true_and,decide_eq_true_eq];exact zj2 (by rw[Aa0];omega)
 ·have:D.depL (ts.map Tr.place)<=1:=zm7 (n:=1) (λa=>by simp[Tr.place,wu8,D.dep,D.depL]) ts
  unfold za6 D.dep;omega
section
variable{a b c e g:D}{x:Sl}{Q:Fl->Unit->Prop}{QB:Bool->Unit->Prop}{E:Exn->Unit->Prop}{ps:List Pk}{A4 A5:Int}{sh:List ww1}{ts cur:List Tr}{ss:List (List Tr)}
abbrev rr(a b:D)(ps:List Pk)(e g:D)(x:Sl):Rho:=[Sl.bor a,.bor b,.bor (.lst (ps.map Pk.data)),.bor e,.bor g,x]
def wp0{l:List D}(h:QB true ()):wpR ((zf6 (wy6 5)).1 (rr a b ps (.tup l) g x) ()) QB E:=by
 unfold zf6;have ii:isI Bt.tuple (.tup l)=true:=rfl;simp! [ii];exact h
def vu9{l:List D}(h:QB false ()):wpR ((zf6 (wy6 5)).1 (rr a b ps (.lst l) g x) ()) QB E:=by
 unfold zf6;have ii:isI Bt.tuple (.lst l)=false:=rfl;simp! [ii];exact h
def wp1{i j:Nat}(h:Q (.rt (.bl true)) ()):wpR ((zf6 (wy6 5)).2.1 (rr a b ps (.tup [.int i,.int j]) (.tup [.str "barred",.int i,.int j]) x) ()) Q E:=by
 unfold zf6;have i0:oIx (.tup [.int i,.int j]) (.int 0)=some (.int i):=rfl;have i1:oIx (.tup [.int i,.int j]) (.int 1)=some (.int j):=rfl;have t3:vb4 [.str "barred",.int i,.int j]=some (.tup [.str "barred",.int i,.int j]):=zi7 (by simp[D.immL,D.imm]) (by simp);simp! [i0,i1,t3];refine yp0 5 ye4.1 ye4.2 ?_;simp!;exact h
def vu8{d:D}(hd:d.dep<=3/\d.lw=true)(h:QB false ()):wpR ((zw1 (wy6 5)).1 (rr a b ps e (.tup [.str "told",d]) (.bor d)) ()) QB E:=by
 unfold zw1;have t2:vk9 [.str "told",d]=some (.tup [.str "told",d]):=if_pos (by show 2<=sizeLine;decide);simp! [t2];refine yp0 5 (xe0 hd).1 (xe0 hd).2 ?_;simp!;exact h
def wo8(h:QB true ()):wpR (zf5.1 (rr a b ps e g (.bor .non)) ()) QB E:=by
 unfold zf5;simp!;exact h
def wo9(h:Q (.rt (.bl true)) ()):wpR (zf5.2.1 (rr a b ps e g x) ()) Q E:=by
 unfold zf5;simp!;exact h
def vu7{l:List D}(h:QB false ()):wpR (zf5.1 (rr a b ps e g (.bor (.lst l))) ()) QB E:=by
 unfold zf5;simp!;exact h
def xl0{m:Nat}(hp:∀p∈ps,Pk.ok m p):∀p∈zd3 ps,Pk.ok m p:=λp hp'=>by
 unfold zd3 at hp';obtain⟨q,hq,rfl⟩:=Bo0.mp (List.mem_reverse.mp hp');obtain⟨q1,q2,q3,q4⟩:=hp q hq;exact⟨q1,wj1 q2,q3,q4⟩
def zk6:(zd3 ps).length=ps.length:=by unfold zd3;rw[List.length_reverse,Aa0]
def wo7(ho:zd7 A4 A5 sh ts)(hp:∀p∈ps,p.ok ts.length)(hl:ps.length<=900)(hc:wv2 A4 A5 sh ts ps ss cur)(no:(ww3 (ts::ss) ps).any Option.isNone=false)(h:Q (.rt (.bl true)) ()) :
 wpR ((zw0 (wy6 5) (noX yd2) yh1).1 [Sl.bor (wu9 A4 A5 sh ts),.bor (za6 ts),.bor (.lst (ps.map Pk.data)),.bor (.lst ((ts::ss).map za6)),.no,.bor (.lst ((zd3 ps).map Pk.data))] ()) Q E:=by
 have few:=ho.few;obtain⟨s2,hb⟩:=hc.back ho hp (yo9 hc no);have hoc:=hc.ok ho;have hpr:∀p∈zd3 ps,p.ok cur.length:=by rw[hc.len];exact xl0 hp
 have hlr:(zd3 ps).length<=900:=by rw[zk6];exact hl
 have ixl:oIx (.lst (za6 ts::ss.map za6)) (.int (-1))=some (za6 cur):=xb7 (l:=(ts::ss).map za6) zc3 (by rw[List.getLast?_map,hc.lastL];rfl);have low:=xq5 (ps:=zd3 ps) (by rw[zk6];omega);have low5:(D.lst ((zd3 ps).map Pk.data)).dep<5:=by omega
 unfold zw0;simp! [ixl];rw[<-ze3 hc.kind];with_reducible refine ys8 hoc hpr hlr (λi j s1 c1 p m t h1 h2 h3 h4 h5 h6=>?_) λs3 c3 h3=>?_
 ·exact(vf6.none ⟨s1,c1,p,m,t,h1,h2,h3,h4,h5,h6⟩ hb).elim
 ·obtain⟨e1,e2⟩:=h3.det hb
  subst e1 e2;have ixm:oIx (.lst (za6 cur::s3.map za6)) (.int (-1))=some (za6 c3):=xb7 (l:=(cur::s3).map za6) zc3 (by rw[List.getLast?_map,h3.lastL];rfl);rw[ze3 hc.kind];simp! [ixm,xy7 few];with_reducible refine wd1 ?_
  have hN:∀(i j:Nat),vf6 A4 A5 sh c3 ps i j->False:=λi j st=>st.none hc
  with_reducible refine xd1 ho hp hl hN λs4 c4 h4=>?_
  obtain⟨e1,e2⟩:=h4.det hc;subst e1 e2;rw[if_neg (by rw[no];decide),yy7 h4 no];refine yp0 5 low5 low.2 ?_;exact⟨.inl rfl,h⟩
end
def wm3(l:List D):Prop:=∃(A4 A5:Int) (sh:List ww1) (ts:List Tr) (ps:List Pk),l=[wu9 A4 A5 sh ts,za6 ts,.lst (ps.map Pk.data)]/\zd7 A4 A5 sh ts/\(∀p∈ps,p.ok ts.length)/\ps.length<=900
open Classical in
def yh4(l:List D):Res Unit D:=if wm3 l then .ok (.bl true) () else .bad
def xd5{A4 A5:Int}{sh:List ww1}{ts:List Tr}{ps:List Pk}{Q:D->Unit->Prop}{E:Exn->Unit->Prop}(ho:zd7 A4 A5 sh ts)(hp:∀p∈ps,p.ok ts.length)(hl:ps.length<=900)(h:Q (.bl true) ()):wpR (yh4 [wu9 A4 A5 sh ts,za6 ts,.lst (ps.map Pk.data)]) Q E:=by
 unfold yh4;rw[if_pos ⟨A4,A5,sh,ts,ps,rfl,ho,hp,hl⟩];exact h
def wo1:wx1 zg8 [a,b,c]=[some a,some b,some c,none,none,none]:=rfl
theorem wh0(h:wpR (G l) (λd st=>Q (.tup [.str "told",d]) st) (λx st=>∃a b,x.args=[.int a,.int b]/\Q (.tup [.str "barred",.int a,.int b]) st)):wpR (vc4 G l) Q E:=by
 unfold vc4;cases q:G l with
 | ok d st=>rw[q] at h;exact h
 | bad=>rw[q] at h;exact h.elim
 | exc x st=>
   rw[q] at h;obtain⟨a,b,e,z⟩:=h;simp only[e];exact z
def vd6(ts:List Tr)(ss:List (List Tr))(ps:List Pk):D:=if (ww3 (ts::ss) ps).any Option.isNone then .non else .lst ((zd3 ps).map Pk.data)
def wt1{A4 A5:Int}{sh:List ww1}{ts cur:List Tr}{ps:List Pk}{ss:List (List Tr)}(h:wv2 A4 A5 sh ts ps ss cur):(if (ww3 (ts::ss) ps).any Option.isNone then D.non else .lst ((ww3 (ts::ss) ps).map vd5).reverse)=vd6 ts ss ps:=by
 unfold vd6;by_cases hb:(ww3 (ts::ss) ps).any Option.isNone=true
 ·rw[if_pos hb,if_pos hb]
 ·rw[if_neg hb,if_neg hb,yy7 h (Bool.eq_false_iff.mpr hb)]
def wl1{ts:List Tr}{ps:List Pk}{ss:List (List Tr)}(h:ps.length<=1000):(vd6 ts ss ps).dep<=3/\(vd6 ts ss ps).lw=true:=by
 unfold vd6;by_cases hb:(ww3 (ts::ss) ps).any Option.isNone=true
 ·rw[if_pos hb];exact⟨Bb0 _,rfl⟩
 ·rw[if_neg hb];exact xq5 (by rw[zk6];exact h)
open H in
def wa3{P:Program}{w:World}{K:PySem.W.Frag}{mg:Str->Option Value}{base:Heap}{k:Nat}{f g:Addr}{fd:FuncData}(F:Fun K "_law_right" "_law_right" zd2 f fd)(hm:Bn mg)(cs:Cst K mg)(Cs:zc1 P w K mg base k "_law_stands" ["_law_hall_here","_law_stand","_law_pushes"] (sp0 K yh1))(eg:mg "taken_back" = some (.ref g))(Ct:zc1 P w K mg base k "_law_told" ["_law_hall_here","_law_stand","_law_pushes","_law_call"] (spT g K (vc4 yd2)))(Cd:zc1 P w K mg base k "_law_due" ["_law_hall_here","_law_stands_here","_law_pushes"] (sp0 K vx7))(Ca:zc1 P w K mg base k "_law_same" ["_law_found","_law_due_here"] (sp0 K (wy6 5)))(Cp:zc1 P w K mg base k "taken_back" ["hall","stand","pushes"] (sp0 K (noX yd2))) :
 wy0 P w K mg base CX0 (k+1) f fd ["_law_hall_here","_law_stand","_law_pushes"] (sp0 K yh4):=by
 refine F.ok zl9 (λvs H Q E h=>?_) λcdv A outer s H vs Q E hr h=>?_
 ·obtain⟨l,i,wq⟩:=h
  unfold yh4 at wq;split at wq
  ·rename_i ro
   obtain⟨A4,A5,sh,ts,ps,rfl,_⟩:=ro;rw[<-i.length];rfl
  ·exact wq.elim
 ·obtain⟨l,i,wq⟩:=h
  unfold yh4 at wq;split at wq;case isFalse=>exact wq.elim
  case isTrue ro=>
  obtain⟨A4,A5,sh,ts,ps,rfl,ho,hp,hl⟩:=ro;have hQ:∀H',wx4 H H'->Q (.bl true) H':=λH' sm=>wq _ H' sm (Is.bl_iff.mpr rfl)
  clear wq;obtain⟨v0,r0,rfl,y0,i⟩:=IsL.cons.mp i;obtain⟨v1,r1,rfl,y1,i⟩:=IsL.cons.mp i;obtain⟨v2,r2,rfl,y2,i⟩:=IsL.cons.mp i;have e:=IsL.nil.mp i;subst e;refine⟨λD σ H1=>σ=wx1 zg8 [v0,v1,v2]/\H1=H/\∀v H',Q v H'->D.rt v H',?_,rfl,rfl,λ_ _ q=>q⟩;intro A3 s1 σ H1 D I ⟨e1,e2,e3⟩;subst e1 e2;rw[wo1] at I;have hl1:ps.length<=1000:=by omega
  -- stands=_law_stands(..)
  refine zn2 (N:=λσ' H'=>∃v d,σ'=[some v0,some v1,some v2,some v,none,none]/\wx4 H1 H'/\Is K (λ_=>True) H' d v/\((∃i j:Nat,vf6 A4 A5 sh ts ps i j/\d=.tup [.int i,.int j])\/∃ss cur,wv2 A4 A5 sh ts ps ss cur/\d=.lst ((ts::ss).map za6))) (zl6 (i:=3) zl9.nd rfl (.inl rfl) (xf2 Cs hr rfl (zb8 (pv 0) (zb8 (pv 1) (zb8 (pv 2) zf4))))) I ⟨v0,rfl,v1,rfl,v2,rfl,_,IsL.cons.mpr ⟨_,_,rfl,y0,IsL.cons.mpr ⟨_,_,rfl,y1,IsL.one y2⟩⟩,?_⟩ λs3 σ3 H3 I3 hI148=>?_
  ·with_reducible refine ys8 ho hp hl (λi j s1 c1 p m t h1 h2 h3 h4 h5 h6=>?_) λs2 c2 h2=>?_
   ·exact λv H' sm is=>⟨v,_,rfl,sm,is.top,.inl ⟨i,j,⟨s1,c1,p,m,t,h1,h2,h3,h4,h5,h6⟩,rfl⟩⟩
   ·exact λv H' sm is=>⟨v,_,rfl,sm,is.top,.inr ⟨s2,c2,h2,rfl⟩⟩
  obtain⟨v3,due,e4,sm13,z3,hdue⟩:=hI148;subst e4;have x0:=y0.same sm13;have x1:=y1.same sm13;have x2:=y2.same sm13
  -- found=_law_told(..)
  refine zn2 (N:=λσ' H'=>∃v d,σ'=[some v0,some v1,some v2,some v3,some v,none]/\wx4 H3 H'/\Is K (λb=>H3 b=none) H' d v/\((∃i j:Nat,vf6 A4 A5 sh ts ps i j/\d=.tup [.str "barred",.int i,.int j])\/∃ss cur,wv2 A4 A5 sh ts ps ss cur/\d=.tup [.str "told",vd6 ts ss ps])) (zl6 (i:=4) zl9.nd rfl (.inl rfl) (xr4 Ct hr rfl (zb8 (pv 0) (zb8 (pv 1) (zb8 (pv 2) (zb8 (zu2 (v:=.ref g) rfl eg rfl) zf4)))))) I3 ⟨v0,rfl,v1,rfl,v2,rfl,[v0,v1,v2],rfl,_,IsL.cons.mpr ⟨_,_,rfl,x0,IsL.cons.mpr ⟨_,_,rfl,x1,IsL.one x2⟩⟩,?_⟩ λs4 σ4 H4 I4 hI149=>?_
  ·with_reducible refine wh0 ?_
   with_reducible refine xd1 ho hp hl (λi j st=>?_) λs2 c2 h2=>?_
   ·exact⟨i,j,rfl,λv H' sm is=>⟨v,_,rfl,sm,is,.inl ⟨i,j,st,rfl⟩⟩⟩
   ·rw[wt1 h2]
    exact λv H' sm is=>⟨v,_,rfl,sm,is,.inr ⟨s2,c2,h2,rfl⟩⟩
  obtain⟨v4,found,e4,sm34,z4,hfound⟩:=hI149;subst e4;have sm14:wx4 H1 H4:=λb o e=>sm34 b o (sm13 b o e)
  have fin:∀v H',(∀b o,H4 b=some o->H1 b=some o->H' b=some o)->Is K (λ_=>True) H' (.bl true) v->D.rt v H':=λv H' keep z=>by
   rw[Is.bl_iff.mp z];exact e3 _ _ (hQ H' λb o e=>keep b o (sm14 b o e) e)
  have R4:Rep (cx0 K H4) H4 [some v0,some v1,some v2,some v3,some v4,none] (rr (wu9 A4 A5 sh ts) (za6 ts) ps due found .no):=by
   refine yf2 rfl λi x e=>?_
   match i,e with
   | 0,e=>cases e;exact .inr ⟨_,_,rfl,rfl,x0.same sm34⟩
   | 1,e=>cases e;exact .inr ⟨_,_,rfl,rfl,x1.same sm34⟩
   | 2,e=>cases e;exact .inr ⟨_,_,rfl,rfl,x2.same sm34⟩
   | 3,e=>cases e;exact .inr ⟨_,_,rfl,rfl,z3.same sm34⟩
   | 4,e=>cases e;exact .inr ⟨_,_,rfl,rfl,z4.top⟩
   | 5,e=>cases e;exact .inl rfl
  rcases hdue with⟨i,j,hs,rfl⟩ | ⟨ss,cur,hc,rfl⟩
  ·-- barred
   have hf:found=.tup [.str "barred",.int i,.int j]:=by
    rcases hfound with⟨i2,j2,h2,e⟩ | ⟨s2,c2,h2,e⟩
    ·obtain⟨e1,e2⟩:=hs.one h2
     subst e1 e2;exact e
    ·exact(hs.none h2).elim
   subst hf;refine zn2 (N:=λ_ _=>False) ((zf6 (wy6 5)).2.2 _ _ _ _ _ hm cs _ Ca _ cdv A outer s H1 E H4 hr) I4 ⟨_,(),R4,trivial,wp0 λH' ex _=>?_⟩ λ_ _ _ _ z=>z.elim
   rw[if_pos rfl];refine wp1 λv H'' f0 _ z=>fin v H'' (λb o e _=>f0 b o e λm=>m) z.top
  ·-- told
   have hf:found=.tup [.str "told",vd6 ts ss ps]:=by
    rcases hfound with⟨i2,j2,h2,e⟩ | ⟨s2,c2,h2,e⟩
    ·exact(h2.none hc).elim
    ·have e2:=(h2.det hc).1
     subst e2;exact e
   subst hf;refine zn2 (N:=λσ' H'=>σ'=[some v0,some v1,some v2,some v3,some v4,none]/\wx4 H4 H') ((zf6 (wy6 5)).2.2 _ _ _ _ _ hm cs _ Ca _ cdv A outer s H1 E H4 hr) I4 ⟨_,(),R4,trivial,vu9 λH' ex _=>?_⟩ λs5 σ5 H5 I5 hI150=>?_
   ·rw[if_neg Bh0]
    exact⟨rfl,λb o e=>ex b o e λm=>m⟩
   obtain⟨e5,sm45⟩:=hI150;subst e5;have sm35:wx4 H3 H5:=λb o e=>sm45 b o (sm34 b o e)
   -- due=_law_due(..)
   refine zn2 (N:=λσ' H'=>∃v,σ'=[some v0,some v1,some v2,some v3,some v4,some v]/\wx4 H5 H'/\Is K (λb=>H5 b=none) H' (vd6 ts ss ps) v) (zl6 (i:=5) zl9.nd rfl (.inl rfl) (xf2 Cd hr rfl (zb8 (pv 0) (zb8 (pv 3) (zb8 (pv 2) zf4))))) I5 ⟨v0,rfl,v3,rfl,v2,rfl,_,IsL.cons.mpr ⟨_,_,rfl,x0.same sm35,IsL.cons.mpr ⟨_,_,rfl,z3.same sm35,IsL.one (x2.same sm35)⟩⟩,?_⟩ λs6 σ6 H6 I6 hI151=>?_
   ·with_reducible refine wn3 ho hp hl hc ?_
    exact λv H' sm is=>⟨v,rfl,sm,is⟩
   obtain⟨v5,e6,sm56,z5⟩:=hI151;subst e6;have sm46:wx4 H4 H6:=λb o e=>sm56 b o (sm45 b o e)
   have sm36:wx4 H3 H6:=λb o e=>sm46 b o (sm34 b o e)
   have R6:Rep (cx0 K H6) H6 [some v0,some v1,some v2,some v3,some v4,some v5] (rr (wu9 A4 A5 sh ts) (za6 ts) ps (.lst ((ts::ss).map za6)) (.tup [.str "told",vd6 ts ss ps]) (.bor (vd6 ts ss ps))):=by
    refine yf2 rfl λi x e=>?_
    match i,e with
    | 0,e=>cases e;exact .inr ⟨_,_,rfl,rfl,x0.same sm36⟩
    | 1,e=>cases e;exact .inr ⟨_,_,rfl,rfl,x1.same sm36⟩
    | 2,e=>cases e;exact .inr ⟨_,_,rfl,rfl,x2.same sm36⟩
    | 3,e=>cases e;exact .inr ⟨_,_,rfl,rfl,z3.same sm36⟩
    | 4,e=>cases e;exact .inr ⟨_,_,rfl,rfl,z4.top.same sm46⟩
    | 5,e=>cases e;exact .inr ⟨_,_,rfl,rfl,z5.top⟩
   have low:=wl1 (ts:=ts) (ss:=ss) hl1;refine zn2 (N:=λσ' H'=>σ'=[some v0,some v1,some v2,some v3,some v4,some v5]/\wx4 H6 H') ((zw1 (wy6 5)).2.2 _ _ _ _ _ hm cs _ Ca _ cdv A outer s H1 E H6 hr) I6 ⟨_,(),R6,trivial,vu8 low λH' ex _=>?_⟩ λs7 σ7 H7 I7 hI152=>?_
   ·rw[if_neg Bh0]
    exact⟨rfl,λb o e=>ex b o e λm=>m⟩
   obtain⟨e7,sm67⟩:=hI152;subst e7;have sm47:wx4 H4 H7:=λb o e=>sm67 b o (sm46 b o e)
   have sm37:wx4 H3 H7:=λb o e=>sm47 b o (sm34 b o e)
   have R7:Rep (cx0 K H7) H7 [some v0,some v1,some v2,some v3,some v4,some v5] (rr (wu9 A4 A5 sh ts) (za6 ts) ps (.lst ((ts::ss).map za6)) (.tup [.str "told",vd6 ts ss ps]) (.bor (vd6 ts ss ps))):=by
    refine yf2 rfl λi x e=>?_
    match i,e with
    | 0,e=>cases e;exact .inr ⟨_,_,rfl,rfl,x0.same sm37⟩
    | 1,e=>cases e;exact .inr ⟨_,_,rfl,rfl,x1.same sm37⟩
    | 2,e=>cases e;exact .inr ⟨_,_,rfl,rfl,x2.same sm37⟩
    | 3,e=>cases e;exact .inr ⟨_,_,rfl,rfl,z3.same sm37⟩
    | 4,e=>cases e;exact .inr ⟨_,_,rfl,rfl,z4.top.same sm47⟩
    | 5,e=>cases e;exact .inr ⟨_,_,rfl,rfl,z5.top.same sm67⟩
   by_cases hb:(ww3 (ts::ss) ps).any Option.isNone=true
   ·have ed:vd6 ts ss ps=.non:=if_pos hb
    rw[ed] at R7;refine zn2 (N:=λ_ _=>False) (zf5.2.2 _ _ _ _ _ hm cs _ _ cdv A outer s H1 E H7 hr) I7 ⟨_,(),R7,trivial,wo8 λH' ex _=>?_⟩ λ_ _ _ _ z=>z.elim
    rw[if_pos rfl];exact wo9 λv H'' f0 _ z=>fin v H'' (λb o e _=>f0 b o (sm47 b o e) λm=>m) z.top
   ·have ed:vd6 ts ss ps=.lst ((zd3 ps).map Pk.data):=if_neg hb
    have no:=Bool.eq_false_iff.mpr hb;rw[ed] at R7 z4 z5;refine zn2 (N:=λσ' H'=>σ'=[some v0,some v1,some v2,some v3,some v4,some v5]/\wx4 H7 H') (zf5.2.2 _ _ _ _ _ hm cs _ _ cdv A outer s H1 E H7 hr) I7 ⟨_,(),R7,trivial,vu7 λH' ex _=>?_⟩ λs8 σ8 H8 I8 hI153=>?_
    ·rw[if_neg Bh0]
     exact⟨rfl,λb o e=>ex b o e λm=>m⟩
    obtain⟨e8,sm78⟩:=hI153;subst e8;have sm48:wx4 H4 H8:=λb o e=>sm78 b o (sm47 b o e)
    have sm68:wx4 H6 H8:=λb o e=>sm78 b o (sm67 b o e)
    obtain⟨tp,ws,e5,htp,zw⟩:=Is.tup_iff.mp z4;subst e5;obtain⟨q0,ws,rfl,zx,zw⟩:=IsL.cons.mp zw;obtain⟨q1,ws,rfl,zl,zw⟩:=IsL.cons.mp zw;have ew:=IsL.nil.mp zw;subst ew;obtain⟨lb,us,rfl,new,hlb,il⟩:=Is.lst_iff.mp zl;have ll:us.length<=900:=by rw[<-il.length,Aa0,zk6];exact hl
    have d5:H5 lb=some (.lst us):=sm45 _ _ hlb;have z5':Is K (λb=>b≠lb) H8 (.lst ((zd3 ps).map Pk.data)) v5:=z5.mono ⟨λb o e _=>sm68 b o e,λb o a e=>⟨λz=>(by rw[z,d5] at a;cases a),sm68 b o e⟩⟩
    -- found[1].reverse()
    refine zn2 (N:=λσ' H'=>σ'=[some v0,some v1,some v2,some v3,some (.ref tp),some v5]/\H'=upd H8 lb (.lst us.reverse)) (yp9 (wq1 PySem.F.plainAttrs_list PySem.F.slot_list_reverse PySem.F.type_list_reverse xl6 (vg4 xg9 (pv 4) zh3 (λ_ _=>rfl)))) I8 ⟨.ref tp,rfl,tp,_,1,.ref lb,rfl,rfl,.of (sm48 _ _ htp),rfl,.inl ⟨rfl,us,.of (sm48 _ _ hlb)⟩,lb,us,rfl,rfl,sm48 _ _ hlb,rfl,rfl⟩ λs9 σ9 H9 I9 hI154=>?_
    obtain⟨e9,e10⟩:=hI154;subst e9;have tl:tp≠lb:=vh1 htp hlb (λz=>by cases z);have h9l:H9 lb=some (.lst us.reverse):=by rw[e10];exact zb3
    have h9t:H9 tp=some (.tup [q0,.ref lb]):=by rw[e10,za9 tl];exact sm48 _ _ htp
    -- found[1].append((0,0,1))
    refine zn2 (N:=λσ' H'=>σ'=[some v0,some v1,some v2,some v3,some (.ref tp),some v5]/\∃p o,H9 p=none/\H'=upd (upd H9 p (.tup o)) lb (.lst (us.reverse++[.ref p]))) (yp9 (vk7 PySem.F.plainAttrs_list PySem.F.slot_list_append PySem.F.type_list_append zj1 (vg4 xg9 (pv 4) zh3 (λ_ _=>rfl)) (zb8 (yh5 (zb8 zh3 (zb8 zh3 (zb8 zh3 zf4)))) zf4))) I9 ⟨.ref tp,rfl,tp,_,1,.ref lb,rfl,rfl,.of h9t,rfl,.inl ⟨rfl,_,.of h9l⟩,(by show 3<=sizeLine;decide),λp hp=>⟨lb,us.reverse,.ref p,rfl,rfl,by rw[za9 (zb1 h9l hp)];exact h9l,lt_size (by rw[List.length_reverse];omega),rfl,p,_,hp,rfl⟩⟩ λs10 σ10 H10 I10 hI155=>?_
    obtain⟨e11,p,o,hpp,e12⟩:=hI155;subst e11;have k8:∀b o,b≠lb->H8 b=some o->H10 b=some o:=λb o nb e=>by
     have e9':H9 b=some o:=by rw[e10,za9 nb];exact e
     rw[e12,za9 nb,za9 (zb1 e9' hpp)];exact e9'
    have sm310:wx4 H3 H10:=λb o e=>k8 b o (zb1 e new) (sm48 b o (sm34 b o e))
    have l8:H8 lb=some (.lst us):=sm48 _ _ hlb;have z510:Is K (λ_=>True) H10 (.lst ((zd3 ps).map Pk.data)) v5:=z5'.mono ⟨λb o e s=>k8 b o (λz=>by rw[z,l8] at e;cases e;rcases s with⟨u,e⟩ | ⟨ob,u,e⟩<;>cases e) e,λb o a e=>⟨trivial,k8 b o a e⟩⟩;have R10:Rep (cx0 K H10) H10 [some v0,some v1,some v2,some v3,some (.ref tp),some v5] [Sl.bor (wu9 A4 A5 sh ts),.bor (za6 ts),.bor (.lst (ps.map Pk.data)),.bor (.lst ((ts::ss).map za6)),.no,.bor (.lst ((zd3 ps).map Pk.data))]:=by
     refine yf2 rfl λi x e=>?_
     match i,e with
     | 0,e=>cases e;exact .inr ⟨_,_,rfl,rfl,x0.same sm310⟩
     | 1,e=>cases e;exact .inr ⟨_,_,rfl,rfl,x1.same sm310⟩
     | 2,e=>cases e;exact .inr ⟨_,_,rfl,rfl,x2.same sm310⟩
     | 3,e=>cases e;exact .inr ⟨_,_,rfl,rfl,z3.same sm310⟩
     | 4,e=>cases e;exact .inl rfl
     | 5,e=>cases e;exact .inr ⟨_,_,rfl,rfl,z510⟩
    refine zn2 (N:=λ_ _=>False) ((zw0 (wy6 5) (noX yd2) yh1).2 _ _ _ _ _ hm cs _ Ca Cp Cs _ cdv A outer s H1 E H10 hr) I10 ⟨_,(),R10,trivial,wo7 ho hp hl hc no λv H'' f0 _ z=>?_⟩ λ_ _ _ _ z=>z.elim
    exact fin v H'' (λb o _ e=>f0 b o (sm310 b o (sm13 b o e)) λm=>m) z.top
def vv9{m:Nat}{ps:List Pk}(h:∀p∈ps,Pk.lo m p):∀p∈ps,Pk.ok m p:=λp hp=>⟨(h p hp).1,(h p hp).2.1,(h p hp).2.2.1,by have:=(h p hp).2.2.2;omega⟩
def Tr.weak(t:Tr):Tr:={ t with s:=0 }
section
variable{A4 A5:Int}{sh:List ww1}{ts:List Tr}
def zd7.weak(ho:zd7 A4 A5 sh ts):zd7 A4 A5 sh (ts.map Tr.weak) where
 w1:=ho.w1
 w9:=ho.w9
 h1:=ho.h1
 h9:=ho.h9
 sub:=ho.sub
 few:=by rw[Aa0];exact ho.few
 tr:=λt ht=>by
  obtain⟨u,hu,rfl⟩:=Bo0.mp ht;have:=ho.tr u hu;exact⟨this.w1,this.h1,this.x0,this.xw,this.y0,this.yh,this.ways,.inl rfl,this.free⟩
 apart:=List.pairwise_map.mpr ho.apart
def xk0:za6 (ts.map Tr.weak)=za6 ts:=by unfold za6;rw[Bt0];rfl
end
def vj9(d:D):D:=match d with
 | .tup [a,u,w,_]=>.tup [a,u,w,.int 0]
 | _=>.non
def xf4{a b:List D}(h1:D.immL a=true)(h2:D.immL b=true)(h:a.length+b.length<=1000)(ha:a≠[]):ww9 (.tup a) (.tup b)=some (.tup (a++b)):=by
 show (none:Option D).or ((none:Option D).or ((vh0 (.tup a) (.tup b)).or _))=_;have:vh0 (.tup a) (.tup b)=some (.tup (a++b)):=by
  show (if D.immL a=true/\D.immL b=true/\a.length+b.length<=sizeLine/\a.isEmpty=false then some (D.tup (a++b)) else none)=_;rw[if_pos ⟨h1,h2,zj2 h,by cases a with | nil=>exact absurd rfl ha | cons _ _=>rfl⟩]
 rw[this];rfl
def wn2(ns:List Int)(hn:ns.length<=63):wpR ((vl8 vm0 wx8 vq6 yh4 yp5).1 (rhoL vb5.length) (zs7 ns,0)) (λfl _=>fl=.rt (.bl true)) λ_ _=>False:=by
 unfold vl8;dsimp only;have rh:rhoL vb5.length=[Sl.no,.hnd,.no,.no,.no,.no,.no]:=rfl;rw[rh,zb0];obtain⟨st0,hst0,h00⟩:∃st0:Dr,(zs7 ns,(0:Int))=st0/\st0.2=0:=⟨_,rfl,rfl⟩;rw[hst0];have pw:iOp vr9 (λi j=>D.int (i ^ j.toNat)) (.int 10) (.int 9)=some (.int 1000000000):=rfl;simp! [pw];refine zc7 (by decide) (by decide) (by omega) λv1 st1 a1 b1 c1=>?_
 simp! [zi9];refine wh4 (by omega) (by decide) (by decide) λA4 A5 sh ts0 st2 ho0 t2=>?_
 simp!;refine yb4 (λρ st'=>∃(ts:List Tr),ρ=[Sl.no,.hnd,.bor (wu9 A4 A5 sh ts),.bor (za6 ts),.no,.no,.no]/\zd7 A4 A5 sh ts/\st'.2<=st2.2+1) ?_ ?_
 ·intro P0 pn0
  simp!;refine zc7 (by decide) (by decide) (by omega) λv3 st3 a3 b3 c3=>?_
  simp! [zi9];by_cases hv:v3=0
  ·have him:D.immL [D.int A4,.int A5,.tup (sh.map wu8),.tup (ts0.map Tr.kind)]=true:=by simp only[D.immL,imm_tup,zb5 ze4,zb5 zm6,imm_int,Cg0]
   have him3:D.immL [D.int A4,.int A5,.tup (sh.map wu8)]=true:=by simp only[D.immL,imm_tup,zb5 ze4,imm_int,Cg0]
   have c1':vr4 none (some 3) (wu9 A4 A5 sh ts0)=some (.tup [.int A4,.int A5,.tup (sh.map wu8)]):=by
    show (if D.immL [D.int A4,.int A5,.tup (sh.map wu8),.tup (ts0.map Tr.kind)]=true/\¬(HT.sIx 4 0 none=0/\HT.sIx 4 4 (some 3)=4) then _ else none)=_;rw[if_pos ⟨him,by decide⟩];rfl
   have i3:oIx (wu9 A4 A5 sh ts0) (.int 3)=some (.tup (ts0.map Tr.kind)):=(zx5 (by rw[imm_tup];exact zb5 zm6 _) (by decide) rfl).2;rw[if_pos (by simp[hv])];simp! [c1',i3,D.seq?];refine zi5 vj9 (λρ=>∃x,ρ=[x]) ⟨_,rfl⟩ (λd hd ρ hI=>?_) (zj2 (by rw[Aa0];have:=ho0.few;omega)) ?_
   ·obtain⟨x,rfl⟩:=hI
    obtain⟨t,_,rfl⟩:=Bo0.mp hd;refine⟨_,rfl,⟨_,rfl⟩,⟨rfl,rfl⟩,?_⟩;have kc:vr4 none (some 3) t.kind=some (.tup [.int t.w,.int t.h,.str t.ways]):=rfl;have z1:vb4 [D.int 0]=some (.tup [.int 0]):=zi7 (by simp[D.immL,D.imm]) (by simp);have ad:ww9 (.tup [.int t.w,.int t.h,.str t.ways]) (.tup [.int 0])=some (vj9 t.kind):=xf4 (by simp[D.immL,D.imm]) (by simp[D.immL,D.imm]) (by simp) (by simp);simp! [kc,z1,ad];first | exact⟨rfl,zm6 t.weak⟩ | rfl
   ·have em:(ts0.map Tr.kind).map vj9=(ts0.map Tr.weak).map Tr.kind:=by rw[Bt0,Bt0];rfl
    rw[em];have kim:D.immL ((ts0.map Tr.weak).map Tr.kind)=true:=zb5 zm6 _;have o1:vb4 [D.tup ((ts0.map Tr.weak).map Tr.kind)]=some (.tup [.tup ((ts0.map Tr.weak).map Tr.kind)]):=zi7 (by simp only[D.immL,imm_tup,kim,Cg0]) (by simp);have o2:ww9 (.tup [.int A4,.int A5,.tup (sh.map wu8)]) (.tup [.tup ((ts0.map Tr.weak).map Tr.kind)])=some (wu9 A4 A5 sh (ts0.map Tr.weak)):=xf4 him3 (by simp only[D.immL,imm_tup,kim,Cg0]) (by simp) (by simp);have hf:(wu9 A4 A5 sh (ts0.map Tr.weak)).flat=false:=rfl;simp! [yd8,kim,o1,o2,hf];exact pn0 _ _ ⟨ts0.map Tr.weak,by rw[xk0],ho0.weak,by omega⟩
  ·rw[if_neg (by simpa using hv)]
   exact pn0 _ _ ⟨ts0,rfl,ho0,by omega⟩
 rintro ρ1 st2b ⟨ts,rfl,ho,hst4⟩;rw  [zb0];simp!;refine zc7 (by decide) (by decide) (by omega) λv3 st3 a3 b3 c3=>?_
 have l2:ve0 [D.int v3,.int 40]=some (.lst [D.int v3,.int 40]):=zi8 (by simp[D.immL,D.imm]) (by simp);simp! [l2];refine zc7 (by decide) (by decide) (by omega) λv4 st4 a4 b4 c4=>?_
 obtain⟨many,em,m0,m1⟩:∃many:Int,oIx (.lst [D.int v3,.int 40]) (.int (if (v4 == 0)=true then 1 else 0))=some (.int many)/\0<=many/\many<=60:=by
  by_cases h:(v4 == 0)=true
  ·rw[if_pos h];exact⟨40,rfl,by decide,by decide⟩
  ·rw[if_neg h];exact⟨v3,rfl,a3,by omega⟩
 simp! [zi9,vl4,em];rw  [zb0];simp!;with_reducible refine wm9 ho (by omega) m0 m1 λps st5 hps hpl t5=>?_
 simp! [zk3];rw  [zb0];simp!;with_reducible refine xd5 ho (vv9 hps) (by omega) ?_
 simp!;have t0:vb4 []=some (.tup []):=zi7 rfl (by simp);have dp:D.depL (ts.map Tr.place)<=29:=Av0 (zm7 (n:=1) (λa=>by simp[Tr.place,wu8,D.dep,D.depL]) ts) (by decide);have e0:oEq true (za6 ts) (.tup [])=some (.bl (!decide (ts.map Tr.place=[]))):=by
  unfold za6;rw[xf3 dp];rfl
 rw  [zb0];simp! [t0,e0,vl4];obtain⟨m,hm,hm0⟩:∃m:Nat,vg8 (.int 2) (.int (if (!decide (ts.map Tr.place=[]))=true then 1 else 0))=some (.int (m:Nat))/\m<=2/\(0<m->0<ts.length):=by
  by_cases h:ts=[]
  ·subst h
   exact⟨0,rfl,by omega,λz=>absurd z (by omega)⟩
  ·have:decide (ts.map Tr.place=[])=false:=Ai1 (by simpa using h)
   rw[this];exact⟨2,rfl,by omega,λ_=>List.length_pos_iff.mpr h⟩
 simp! [hm];rw[zf0 (by omega) (by omega)];refine yg7 (λi ρ st'=>∃(x4 x6:Sl),ρ=[Sl.no,.hnd,.bor (wu9 A4 A5 sh ts),.bor (za6 ts),x4,.own (.lst (ps.map Pk.data)),x6]/\st'.2<=st5.2+5*i) 0 ⟨_,_,rfl,by omega⟩ (λi e ρ st' he hI P pn pr=>?_) λρ st' hI=>?_
 ·obtain⟨x4,x6,er,hst⟩:=hI
  obtain⟨rfl,hi⟩:=ze9 he;subst er;rw[Ah0] at hst pn;rw[As0] at hi;have few:=ho.few;have hpos:0<ts.length:=hm0.2 (by omega);refine⟨_,rfl,?_⟩;simp!;with_reducible refine xn8 hpos few (by omega) hps hpl λqs st6 hqs hql t6=>?_
  simp!;with_reducible refine xd5 ho hqs (by omega) ?_
  simp!;exact pn _ _ ⟨_,_,rfl,by omega⟩
 ·simp!
end K15
section
set_option maxHeartbeats 0
namespace K15
open L2
def vy3(s:Stmt):dA s=zv4 s:=by cases s<;>rfl
def vy2(s:Stmt):dB s=zb9 s:=by cases s<;>rfl
def vy1(s:Stmt):dS s=za2 s:=by cases s<;>rfl
def FnAt.to{K:PySem.W.Frag}{x:Str}{i:Nat}(h:FnAt K x i):At K x (top i):=by
 obtain⟨f,oc,od,an,osl,kV,doc,pm,cdv,ct,a,l,c,k⟩:=h;rw[vy3,vy2,vy1] at l;exact⟨f,_,a,wf4 (st:=top i) l c k⟩
abbrev yu1:Stmt:=match top 2 with
 | .ClassDef _ _ _ b _ _ _ _ _ _ _=>b.getD 0 (.Pass ⟨0,0,0,0⟩)
 | s=>s
def wi0:zc0 ["self","push","step"] ["self","push","step"] (za2 yu1):=by and_intros
def wm6{K:PySem.W.Frag}{h:Heap}{mg:Str->Option Value}(X:K.In h)(G:h.Ns mainGlobals mg){C1 C0 C2 C3 C4 C5 N N0 fi:Addr}{nm q nm0 q0:Str}{bs bs0 bm0 sub sub0:List Value}{hd0 ab ab0:Bool}{sn sn0:List Str}{col col0:Option Bool}{dd dd0:Option Addr}{k0 k1 k2 k3 k5 l0 l1 l2 l3 l5:Option Value}{id0:String}{od an:Option Addr}{osl:Array (Option Value)}{kV doc pm cdv ct:Value}(y1:nsIn K mainGlobals "Barred" = some (some (.ref C1)))(y0:nsIn K mainGlobals "HallError" = some (some (.ref C0)))(lk:K.lookup C1=some (excClassObj nm q C1 N bs (.ref C0::bmV) true sn sub ab col dd k0 k1 k2 k3 k5 "ValueError.__new__"))(ok:PySem.W.nsOkIn K N=true)(ni:nsIn K N "__init__" = some (some (.ref fi)))(tl:PySem.W.tailIn K bmV (.ref C0::bmV)=true)(ga:PySem.W.findIn K (.ref C1) "__getattribute__" = some (some (.builtin "BaseException.__getattribute__")))(gt:PySem.W.findIn K (.ref C1) "__getattr__" = some none)(cl:PySem.W.findIn K (.ref C1) "__class__" = some (some (.builtin "object.__class__")))(sb:PySem.W.subIn K (.ref C1) (.type "BaseException")=some true)(so:PySem.W.subIn K (.ref C1) (.type "object")=some true)(sa:PySem.W.findIn K (.ref C1) "__setattr__" = some (some (.builtin "object.__setattr__")))(a1:PySem.W.findIn K (.ref C1) "push" = some none)(a2:PySem.W.findIn K (.ref C1) "step" = some none)(kc:keepIn K (.ref C1)=true)(lf:K.lookup fi=some ⟨.type "function",od,.func (fnOf "__init__" "Barred.__init__" (zv4 yu1) (zb9 yu1) (za2 yu1) .none kV doc pm an cdv ct),osl⟩)(cf:codeIn K cdv "Barred.__init__" = true)(kf:keepIn K (.ref fi)=true)(lk0:K.lookup C0=some (excClassObj nm0 q0 C0 N0 bs0 bm0 hd0 sn0 sub0 ab0 col0 dd0 l0 l1 l2 l3 l5 id0))(hbe:(Value.ref C0::bm0).contains (.type "BaseException")=true)(hrd:PySem.W.readsIn K C0 (.type "type")=true)(hfc:PySem.W.findCls K (.ref C0) (.type "type") "__init__" = some (.val (.builtin "ValueError.__init__")))(hg:PySem.W.specialIn K (.ref C0) "__getattribute__" = some (some (.builtin "type.__getattribute__")))(y2:nsIn K mainGlobals "BadRow" = some (some (.ref C2)))(y3:nsIn K mainGlobals "NoRoom" = some (some (.ref C3)))(y4:nsIn K mainGlobals "NoStand" = some (some (.ref C4)))(y5:nsIn K mainGlobals "TooMany" = some (some (.ref C5)))(no:PySem.W.kitAny K (.ref C1) [.ref C2,.ref C3,.ref C4,.ref C5]=some false)(yv:nsIn K mainGlobals "ValueError" = some none)(vt:PySem.W.kitOne K (.ref C1) (.type "ValueError")=some true):XCB K mg C1:=
 have L:va3 K C1:=⟨ga,gt,cl,sb,so⟩;have Fi:=wf4 (st:=yu1) lf cf kf
 { n1:=mg_of X G y1
   r1:=⟨⟨nm,q,N,bs,_,sn,sub,ab,col,dd,k0,k1,k2,k3,k5,fi,_,_,lk,ok,ni,tl,by simp,Fi.binds (ps:=["self","push","step"]) λ_ _ _ _ _ _ us hl=>by obtain⟨_,_,_,rfl⟩:=ln3 hl;rfl,lf,rfl,
    wb6 Fi rfl wi0 (by decide +kernel) (by decide +kernel) lk tl L sa a1 a2 (λe=>(refuseLoop_ref _ _ _ _).trans (F.store_ValueError.passes _)) rfl (mg_of X G y0) hrd hfc hg rfl rfl rfl λenv=>⟨_,rfl⟩⟩,kc⟩
   l1:=L
   a1:=a1
   a2:=a2
   up:=⟨C0,_,bm0,mg_of X G y0,⟨nm,q,N,bs,true,sn,sub,ab,col,dd,k0,k1,k2,k3,k5,_,lk⟩,⟨nm0,q0,N0,bs0,hd0,sn0,sub0,ab0,col0,dd0,l0,l1,l2,l3,l5,id0,lk0⟩,hbe,by simp⟩
   no:=⟨C2,C3,C4,C5,mg_of X G y2,mg_of X G y3,mg_of X G y4,mg_of X G y5,no⟩
   vn:=mg_none_of X G yv
   vt:=vt }
theorem all_mk{l:PySem.W.OpenLaw}{w:World}{K:PySem.W.Frag}{h:Heap}{mg:Str->Option Value}{fa:Addr}(X:K.In h)(G:h.Ns mainGlobals mg)(hfa:mg "law" = some (.ref fa))(F:Facts K) :
 ∃fd:FuncData,(∀(s:Shared) (v:Value),BindsTo s fd ⟨[v],[]⟩ [("_law_script",v)])/\∀base:Heap,K.In base->base.Ns mainGlobals mg->wy0 l.prog w K mg base CX0 11 fa fd ["_law_script"] (spLaw K):=by
 cases F with
 | mk h_0 h_1 h_2 h_3 h_4 h_5 h_6 h_7 h_8 h_9 h_10 h_11 h_12 h_13 h_14 h_15 h_16 h_17 h_18 h_19 h_20 h_21 h_22 h_23 h_24 h_25 h_26 h_27 h_28 h_29 h_30 h_31 h_32 h_33 M7 K8 M1 L7 M8 M3 M9 M4 G8 N1 N2 N3 N4 J7 L8 K9 N5 N6 N7 K0 M5 L0 M6 L9 L1 L3 L4 L5 L6 y1 y0 lk ok ni tl ga gt cl sb so sa a1 a2 kc lf cf kf lk0 hbe hrd hfc hg y2 y3 y4 y5 no yv vt=>
 obtain⟨fl,dl,al,Fl⟩:=h_33.to;obtain⟨_,_,kV,dc,pm,an,cd,ct,_,rfl,_,_⟩:=Fl.ex;have e:=hfa.symm.trans (mg_of X G al);cases e;have mn:=λ{x:Str} (z:nsIn K mainGlobals x=some none)=>mg_none_of X G z
 have hm:Bn mg:=⟨mn M7,mn K8,mn M1,mn L7,mn M8,mn M3,mn M9,mn M4,mn G8,mn N1,mn N2,mn N3,mn N4,mn J7,mn L8,mn K9,mn N5,mn N6,mn N7,mn K0⟩;have cs:Cst K mg:=⟨trivial,⟨_,mg_of X G M5⟩,⟨_,mg_of X G L0⟩,⟨_,mg_of X G M6⟩,⟨_,mg_of X G L9,xy2 (p0:=(1,0)) (p1:=(0,1)) (p2:=(-1,0)) (p3:=(0,-1)) L1 L3 L4 L5 L6⟩⟩;have xc:=wm6 X G y1 y0 lk ok ni tl ga gt cl sb so sa a1 a2 kc lf cf kf lk0 hbe hrd hfc hg y2 y3 y4 y5 no yv vt;refine⟨fnOf "law" "law" (zv4 wz8) (zb9 wz8) (za2 wz8) .none kV dc pm an cd ct,λs v=>.of_eq rfl,λbase _ _=>?_⟩;have CB:zc1 l.prog w K mg base 1 "_law_begin" ["_law_script"] (yz8 K):=vp8 _ _ _ X G h_0.to λf fd F=>wa4 F hm
 have C_1:=λp q=>vp8 (sp:=spS (WdS p q) K wx8) l.prog w base X G h_1.to λf fd F=>wj5 F hm.len hm.divmod
 have C_2:=vb8 l.prog w base X G h_2.to xp2 (yp3.2 _ _ _ _ _ hm cs 0 );have C_3:=vb8 l.prog w base X G h_3.to zq3 (yk6.2 _ _ _ _ _ hm cs 0 );have C_4:=vb8 l.prog w base X G h_4.to zm9 ((yj8 vg5).2 _ _ _ _ _ hm cs 1 C_3.up);have C_5:=vb8 l.prog w base X G h_5.to wi1 (xu1.2 _ _ _ _ _ hm cs 0 );have C_6:=vb8 l.prog w base X G h_6.to yz9 (yb9.2 _ _ _ _ _ hm cs 0 );have C_7:=vb8 l.prog w base X G h_7.to zx2 (zs2.2 _ _ _ _ _ hm cs 0 );have C_8:=vb8 l.prog w base X G h_8.to zt5 ((yq7 xq9 vg5 ya9 yp8).2 _ _ _ _ _ hm cs 1 C_5.up C_3.up C_7.up C_2.up);have C_9:=vb8 l.prog w base X G h_9.to zf3 ((zp9 vv7).2 _ _ _ _ _ hm cs 2 C_8.up);have C_10:=vb8 l.prog w base X G h_10.to xp3 ((yq5 xw6 yq9).2 _ _ _ _ _ hm cs 3 C_9.up C_4.up);have C_11:=vb8 l.prog w base X G h_11.to zp5 ((zs8 ya9).2 _ _ _ _ _ hm cs 1 C_7.up);obtain⟨f_12,d_12,a_12,F_12⟩:=h_12.to;have okp:wy0 l.prog w K mg base (CX3 l.prog w) 5 f_12 d_12 ["hall","stand","push"] (spB K _ zz5):=Fun.dB F_12 zk7 λcdv A outer s H E hr=>(yf3 yq6 xj1).2 _ _ _ _ _ hm cs _ xc.n1 xc.r1 4 (by decide) C_10.up C_11.up _ cdv A outer s H E hr
 obtain⟨f_13,d_13,a_13,F_13⟩:=h_13.to;have okg:wy0 l.prog w K mg base (CX2 l.prog w) 6 f_13 d_13 ["hall","stand","push"] (spB K _ ve5):=Fun.dB F_13 zz0 λcdv A outer s H E hr=>(zp2 zz5).2 _ _ _ _ _ hm cs _ xc.n1 xc.r1 5 (by decide) ⟨_,_,mg_of X G a_12,F_12.kp,F_12.bd,(okp.weak3 λ_ _=>trivial).mono (by decide)⟩ _ cdv A outer s H E hr
 obtain⟨f_14,d_14,a_14,F_14⟩:=h_14.to;have okb:wy0 l.prog w K mg base (CX2 l.prog w) 7 f_14 d_14 ["hall","stand","push"] (spB K _ vd1):=Fun.dB F_14 zw3 λcdv A outer s H E hr=>(yb2 ve5 vq9).2 _ _ _ _ _ hm cs _ xc.n1 xc.r1 6 (by decide) ⟨_,_,mg_of X G a_13,F_13.kp,F_13.bd,okg.mono (by decide)⟩ C_6.up _ cdv A outer s H E hr
 have C_14:zc1 l.prog w K mg base 7 "back_of" ["hall","stand","push"] (sp0 K (noX vd1)):=⟨_,_,mg_of X G a_14,F_14.kp,F_14.bd,okb.noX⟩;obtain⟨f_15,d_15,a_15,F_15⟩:=h_15.to;have okq:wy0 l.prog w K mg base (CX2 l.prog w) 6 f_15 d_15 ["hall","stand","pushes"] (spB K _ yb7):=Fun.dB F_15 zt4 λcdv A outer s H E hr=>(yf4 zz5).2 _ _ _ _ _ hm cs _ xc.n1 xc.r1 xc.l1 xc.a2 5 (by decide) ⟨_,_,mg_of X G a_12,F_12.kp,F_12.bd,okp.mono (by decide)⟩ _ cdv A outer s H E hr
 obtain⟨f_16,d_16,a_16,F_16⟩:=h_16.to;have mt:=mg_of X G a_16;have okt:wy0 l.prog w K mg base (CX2 l.prog w) 8 f_16 d_16 ["hall","stand","pushes"] (spB K _ yd2):=Fun.dB F_16 zr6 λcdv A outer s H E hr=>(zo5 yb7 (noX vd1)).2 _ _ _ _ _ hm cs _ xc.n1 xc.r1 7 (by decide) ⟨_,_,mg_of X G a_15,F_15.kp,F_15.bd,okq.mono (by decide)⟩ C_14.up _ cdv A outer s H E hr
 have C_16:zc1 l.prog w K mg base 8 "taken_back" ["hall","stand","pushes"] (sp0 K (noX yd2)):=⟨_,_,mt,F_16.kp,F_16.bd,okt.noX⟩;have C_17:=vb8 l.prog w base X G h_17.to zn3 (zq1.2 _ _ _ _ _ hm cs 0 );have C_18:=vb8 l.prog w base X G h_18.to zt6 (zq0.2 _ _ _ _ _ hm cs 0 );have C_19:=λp q=>vp7 l.prog w base X G h_19.to zz1 ((zv9 wx8).2 _ _ _ _ _ p q hm cs 1 (C_1 p q).up)
 have C_20:=λp q=>vp7 l.prog w base X G h_20.to ze0 ((zy6 wx8).2 _ _ _ _ _ p q hm cs 1 (C_1 p q).up)
 have C_21:=λp q=>vp7 l.prog w base X G h_21.to zc8 ((zy7 xp0 yb1 wx8 vl9 vk6).2 _ _ _ _ _ p q hm cs 2 (C_19 p q).up C_17.up (C_1 p q).up (C_20 p q).up C_18.up)
 have C_22:=vb8 l.prog w base X G h_22.to yl3 (zt1.2 _ _ _ _ _ hm cs 0 );have C_23:=vb8 l.prog w base X G h_23.to yu0 (zy8.2 _ _ _ _ _ hm cs 0 );have C_24:=vb8 l.prog w base X G h_24.to zd6 ((zy4 yb1 yl0 vm1).2 _ _ _ _ _ hm cs 1 C_17.up C_22.up C_23.up);have C_25:=vb8 l.prog w base X G h_25.to zd9 ((zt0 vk2 yl0).2 _ _ _ _ _ hm cs 2 C_24.up C_22.up);have C_26:∀n:Nat,zc1 l.prog w K mg base n "_law_same" ["_law_found","_law_due_here"] (sp0 K (wy6 n)):=λn=>by
  induction n with
  | zero=>exact vp8 _ _ _ X G h_26.to λf fd F=>ws6
  | succ n ih=>exact vb8 _ _ _ X G h_26.to yt9 ((zy5 (wy6 n)).2 _ _ _ _ _ hm cs n ih)
 have C_26:=C_26 5;have C_27:=vp8 (ps:=["_law_hall_here","_law_stand","_law_pushes","_law_call"]) l.prog w base X G h_27.to λf fd F=>wj4 F hm xc F_16.kp F_16.bd (λl hl=>if_neg λz=>hl z.1) okt
 have C_28:=λp q=>vp7 l.prog w base X G h_28.to zf7 ((yc9 wx8 zs4).2 _ _ _ _ _ p q hm cs 3 (C_1 p q).up C_25.up)
 have C_29:=vb8 l.prog w base X G h_29.to zh6 ((zm8 zs4).2 _ _ _ _ _ hm cs 3 C_25.up);have C_30:=λp q=>vp7 l.prog w base X G h_30.to zh7 ((zs9 wx8).2 _ _ _ _ _ p q hm cs 1 (C_1 p q).up)
 have C_31:=vb8 l.prog w base X G h_31.to zk1 (yd0.2 _ _ _ _ _ hm cs 0 );have C_32:=vp8 (ps:=["_law_hall_here","_law_stand","_law_pushes"]) l.prog w base X G h_32.to λf fd F=>wa3 (k:=9) F hm cs C_29.up mt C_27.up C_31.up C_26.up C_16.up
 exact wq7 Fl (k:=10) CB.up (λp q cdv A outer s H E hr=>(vl8 vm0 wx8 vq6 yh4 yp5).2 _ _ _ _ _ p q hm cs 10 (C_21 p q).up (C_1 p q).up (C_28 p q).up C_32.up (C_30 p q).up _ cdv A outer s H E hr) wn2
end K15
open PySem PySem.W PyProof.Rows
theorem PySem.Challenge.cw_slidehall_k15_rows_taken_back_holds : PySem.Challenge.rw_slidehall_k15_rows_taken_back.Holds :=
 K15.early λq loose XP YP d K hd hn hY facts =>
 L2.walk_of (l:=PySem.Challenge.rw_slidehall_k15_rows_taken_back) (n:=63) (k:=11) (x:="_law_script") (CX:=λ_=>L2.CX0) (sp:=λw=>L2.spLaw (K w.params)) rfl (by decide) hd ⟨rfl,by decide,by decide,rfl⟩ hY (λw mg fa h KX G hmg=>K15.all_mk KX G (hn▸hmg) (facts w.params)) (λ_ _ a ns hl _ hS=>⟨a,ns,rfl,hS,hl,λ_=>rfl⟩) λ_ _ _ _ _ z=>z
end
end

