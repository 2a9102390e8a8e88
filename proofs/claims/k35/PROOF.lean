import PyProof.Rows.All
import Wide.All
import OpenK.AllK
import Wide.FinOn
import KE.KDictSum
import KE.KIsAll
import KE.KListMore
import KE.KRevIter
import Lean
import OpenK.KCls
import OpenK.KOwn
import OpenK.KRaise
import PyProof.AutoRange
import PyProof.AutoSeq1
import PyProof.DictFindH
import PyProof.DictTruth
import PyProof.DictWalks
import PyProof.EqAt
import PyProof.EqKinds
import PyProof.ExcArgsOwn
import PyProof.ExcBaseAll.ValueError
import PyProof.FactsAll.range_2
import PyProof.FactsAll.tuple_2
import PyProof.InstStore
import PyProof.InstStoreFacts
import PyProof.ListMulRoad
import PyProof.MeetsDictList
import PyProof.NeKinds
import PyProof.NsDelKeeps
import PyProof.ReprLen
import PyProof.ReprRoads
import PyProof.Rows.Range3
import PyProof.Rows.RegStrFacts
import PyProof.Rows.SortRunsK
import PyProof.Rows.SortShell
import PyProof.Rows.TupDisplay
import PyProof.TupleCall
import PyProof.WalkInts
import PyProof.ExcClass
import PySem.Challenge.RW_slidehall_k35_where_stands_are_unlike
section
set_option Elab.async false
set_option compiler.extract_closed false
set_option bootstrap.genMatcherCode false
set_option linter.all false
set_option maxRecDepth 100000
set_option maxHeartbeats 0
namespace K35
open PySem PySem.Spec PyProof.Rows PySem.W
def tp (i:Nat):Stmt:=PySem.Challenge.pw_slidehall_k35_where_stands_are_unlike.main.body.getD i (.Pass ⟨0,0,0,0⟩)
def dA (s:Stmt):Arguments:=match s with
 | .FunctionDef _ z _ _ _ _ _ _ _ _=>z
 | _=>⟨[],[],none,[],[],none,[]⟩
def dB (s:Stmt):List Stmt:=match s with
 | .FunctionDef _ _ z _ _ _ _ _ _ _=>z
 | _=>[]
def dS (s:Stmt):Scope:=match s with
 | .FunctionDef _ _ _ _ _ _ z _ _ _=>z
 | _=>{ kind:=.function,names:=[],isGenerator:=false,isCoroutine:=false }
def FnAt (K:Frag)(x:Str)(i:Nat):Prop:=∃ (f:Addr)(oc:Value)(od an:Option Addr)(osl:Array (Option Value))(kV doc pm cdv ct:Value),nsIn K mainGlobals x=some (some (.ref f)) ∧
 K.lookup f=some ⟨oc,od,.func (fnOf x x (dA (tp i)) (dB (tp i)) (dS (tp i)) .none kV doc pm an cdv ct),osl⟩/\codeIn K cdv x=true/\keepIn K (.ref f)=true
theorem FnAt.of {K:Frag}{x:Str}{i:Nat}{f:Addr}{oc:Value}{od an:Option Addr}{osl:Array (Option Value)}{kV doc pm cdv ct:Value}(a:nsIn K mainGlobals x=some (some (.ref f)):=by k_is)
  (l:K.lookup f=some ⟨oc,od,.func (fnOf x x (dA (tp i)) (dB (tp i)) (dS (tp i)) .none kV doc pm an cdv ct),osl⟩:=by k_is)(c:codeIn K cdv x=true:=by k_is)(k:keepIn K (.ref f)=true:=by k_is):FnAt K x i:=⟨f,oc,od,an,osl,kV,doc,pm,cdv,ct,a,l,c,k⟩
def nZ(K)(x):=nsIn K mainGlobals x=some none
theorem nZ.of{K:Frag}{x}(h:nsIn K mainGlobals x=some none:=by k_is):nZ K x:=h
inductive Facts(K:Frag):Prop
|mk    (_:FnAt K "_law_begin" 30)(_:FnAt K "_law_take" 31)(_:FnAt K "within" 2)(_:FnAt K "covered" 3)(_:FnAt K "holders" 4)(_:FnAt K "free_cells" 5)(_:FnAt K "goes" 8)(_:FnAt K "one_further" 9)(_:FnAt K "met_by" 10)(_:FnAt K "without_trolleys" 13)(_:FnAt K "floor_of" 14)(_:FnAt K "places_alone" 15)(_:FnAt K "sides" 16)(_:FnAt K "share" 17)(_:FnAt K "goes_ahead" 18)(_:FnAt K "lines" 19)(_:FnAt K "all_are_single" 20)(_:FnAt K "neighbours_on" 21)(_:FnAt K "ring_of" 22)(_:FnAt K "ring_order" 23)(_:FnAt K "pairs_that_fall" 24)(_:FnAt K "sign" 25)(_:FnAt K "kept" 26)(_:FnAt K "unlike_words" 27)(_:FnAt K "unlike" 28)(_:FnAt K "_law_covered" 32)(_:FnAt K "_law_room_of" 33)(_:FnAt K "_law_sized" 34)(_:FnAt K "_law_kind" 35)(_:FnAt K "_law_hall" 36)(_:FnAt K "_law_single_hall" 38)(_:FnAt K "_law_ring_hall" 37)(_:FnAt K "_law_full_hall" 39)(_:FnAt K "_law_any_hall" 40)(_:FnAt K "_law_lined" 41)(_:FnAt K "_law_stands" 42)(_:FnAt K "_law_other_stand" 43)(_:FnAt K "_law_due" 44)(_:FnAt K "law" 45)(_:nZ K "len")(_:nZ K "divmod")(_:nZ K "list")(_:nZ K "tuple")(_:nZ K "int")(_:nZ K "bool")(_:nZ K "str")(_:nZ K "dict")(_:nZ K "isinstance")(_:nZ K "all")(_:nZ K "any")(_:nZ K "sum")(_:nZ K "zip")(_:nZ K "enumerate")(_:nZ K "range")(_:nZ K "sorted")(_:nZ K "min")(_:nZ K "max")(_:nZ K "abs")(_:nZ K "reversed")(_:nZ K "set"){c8:Tok}(d5:nsIn K mainGlobals "WALL"=some (some (.int (-1) c8))){a0 a4 a3 a2 a1:Addr}{c1 a6 a7 a5 b2:Option Addr}{b6 b0 a8 a9 b1:Array (Option Value)}{c7 c2 c4 b3 c6:Nat}{b7 b4 b8 c0 b5 c5 b9 c3:Tok}(d4:nsIn K mainGlobals "STEPS"=some (some (.ref a0)))(c9:K.lookup a0=some ⟨.type "tuple",c1,.seq #[.ref a4,.ref a3,.ref a2,.ref a1] c7,b6⟩)(d3:K.lookup a4=some ⟨.type "tuple",a6,.seq #[.int (1) b7,.int (0) b4] c2,b0⟩)(d0:K.lookup a3=some ⟨.type "tuple",a7,.seq #[.int (0) b8,.int (1) c0] c4,a8⟩)(d1:K.lookup a2=some ⟨.type "tuple",a5,.seq #[.int (-1) b5,.int (0) c5] b3,a9⟩)(d2:K.lookup a1=some ⟨.type "tuple",b2,.seq #[.int (0) b9,.int (-1) c3] c6,b1⟩){a_KEPT_WORDS:Addr}{od_KEPT_WORDS:Option Addr}{sl_KEPT_WORDS:Array (Option Value)}{n_KEPT_WORDS:Nat}{t0_KEPT_WORDS t1_KEPT_WORDS t2_KEPT_WORDS t3_KEPT_WORDS:Tok}(y_KEPT_WORDS:nsIn K mainGlobals "KEPT_WORDS"=some (some (.ref a_KEPT_WORDS)))(ya_KEPT_WORDS:K.lookup a_KEPT_WORDS=some ⟨.type "tuple",od_KEPT_WORDS,.seq #[.str "sides" t0_KEPT_WORDS,.str "lines" t1_KEPT_WORDS,.str "ring" t2_KEPT_WORDS,.str "sign" t3_KEPT_WORDS] n_KEPT_WORDS,sl_KEPT_WORDS⟩):Facts K
end K35
open PySem PySem.W PyProof.Rows PySem.Challenge
noncomputable def vw:Program:=view rw_slidehall_k35_where_stands_are_unlike.row.toRowW.prog [1,2,3,4,5,7,8,9,10,12,13,14,15,16,17,18,19,20,21,22,23,24,25,26,27,28,30,31,32,33,34,35,36,37,38,39,40,41,42,43,44,45]
theorem K35.hd(H:Hook){d k}(hc:WalkO vw [] (XL vw []) H.says rw_slidehall_k35_where_stands_are_unlike.row.toRowW d k λf v=>call f v)(hw:rw_slidehall_k35_where_stands_are_unlike.row.toRowW.promised)(hl:LeftO rw_slidehall_k35_where_stands_are_unlike.row.prog vw [] (λs=>xlAt vw [] s && recOk rw_slidehall_k35_where_stands_are_unlike.row.toRowW.records s) H.obs H.val 6500)(e:defOf vw rw_slidehall_k35_where_stands_are_unlike.row.name=some (d,k))(p:rw_slidehall_k35_where_stands_are_unlike.row.prog.theDef rw_slidehall_k35_where_stands_are_unlike.row.name=some (d.params,d.body,d.scope))(q:kwWritten? d.params.kwonlyargs d.params.kw_defaults=some k):rw_slidehall_k35_where_stands_are_unlike.row.Holds:=
 holds_open hl H.of H.keeps (λs e=>xl_of s (Bool.and_eq_true_iff.mp e).1) XL.keeps e p q (λs e=>recFacts_of (Bool.and_eq_true_iff.mp e).2) (by rfl) (by decide +kernel) (by decide +kernel) ⟨rfl,rfl,rfl,rfl,rfl,by decide +kernel⟩ hw hc
local macro_rules
 | `(tactic| o_head $H)=>`(tactic| refine K35.hd $H ?_ ?w ?l rfl rfl rfl)
theorem K35.early (W:∀ (q:Program) (loose:List Str) (XP:(Str->Option Value)->Heap->Prop) (YP:World->Heap->Prop) (d:DefRec) (K:Params->Frag),d.params.defaults = []->d.name = "law"->(∀ (w:World) (h:Heap),YP w h->(K w.params).In h)->(∀ P:Params,K35.Facts (K P)) →
  WalkO q loose XP YP rw_slidehall_k35_where_stands_are_unlike.row.toRowW d [] (λf vs=>PySem.call f vs)):rw_slidehall_k35_where_stands_are_unlike.Holds:=by
 w_on; o_law; k_head
 case l=>intro w;kernel_rfl
 case w=>w_witness2
 k_fill
 refine W _ _ _ _ _ _ rfl rfl (λw h Y=>kIn_of Y) ?F
 case F =>
  intro P
  exact .mk .of .of .of .of .of .of .of .of .of .of .of .of .of .of .of .of .of .of .of .of .of .of .of .of .of .of .of .of .of .of .of .of .of .of .of .of .of .of .of .of .of .of .of .of .of .of .of .of .of .of .of .of .of .of .of .of .of .of .of .of (by k_is) (by k_is) (by k_is) (by k_is) (by k_is) (by k_is) (by k_is) (by k_is) (by k_is)

end
noncomputable section
set_option compiler.extract_closed false
set_option bootstrap.genMatcherCode false
set_option genSizeOf false
set_option genInjectivity false
local macro_rules(kind:=Lean.Parser.Command.declaration)
 |x=>if x.getHeadInfo matches .original .. then pure (if (x[1].getKind==``Lean.Parser.Command.«abbrev»||x[1].getKind==``Lean.Parser.Command.definition&&x[1][1][0].getId.isAtomic&&x[1][1][0].getId.toString.front.isUpper)&&x[0].getHeadInfo matches .none then x.setArg 0 (x[0].modifyArg 4 λ_=>Lean.mkNullNode #[Lean.mkNode ``Lean.Parser.Command.«noncomputable» #[Lean.mkAtom "noncomputable"]])else x.setHeadInfo .none)else Lean.Macro.throwUnsupported
local macro_rules
 |`(command|open H in $c)=>`(command|set_option tactic.hygienic true in $c)
local macro_rules
 | `(tactic| and_intros)=>`(tactic| exact ⟨rfl,rfl,rfl,by decide +kernel,rfl,by decide +kernel,by decide +kernel⟩)
set_option hygiene false in
local macro_rules
 |`('s')=>`((starEach (e::es) X.env=(false,eval e X.env)::starEach es X.env))
 |`('u')=>`(((x == ("__debug__" : Str))=false))
 |`('v')=>`((EI X.env.cells scope.names []))
 |`('w')=>`((λb=>¬W.mv b))
 |`('i')=>`(((backTo pos (starEach es X.env)).any (·.1)=false))
 |`('k')=>`((ns.map V.int))
 |`('o')=>`(by omega)
 |`('z')=>`(by decide)
 |`('d')=>`(by simp)
 |`('r')=>`((model prog w))
 |`('e')=>`((model X.prog X.w))
 |`('p')=>`((Addr×Obj))
local macro_rules
 |`(command|instance $i:declId $s:declSig $v:declVal)=>if i.raw.getHeadInfo matches .original .. then do let x<-Lean.getRef;pure (Lean.mkNode x.getKind #[x[0].modifyArg 4 λ_=>Lean.mkNullNode #[Lean.mkNode ``Lean.Parser.Command.«noncomputable» #[Lean.mkAtom "noncomputable"]],Lean.mkNode ``Lean.Parser.Command.definition #[Lean.mkAtom "def",i,Lean.mkNode ``Lean.Parser.Command.optDeclSig #[s.raw[0],Lean.mkNullNode #[s.raw[1]]],v,Lean.mkNullNode]])else Lean.Macro.throwUnsupported
local macro_rules
 |`({$x:term,$y:term})=>`(⟨$x,$y⟩)
 |`({$x:term,$y:term,$z:term,*})=>`(⟨$x,$y,$z,*⟩)
local macro_rules
 |`(tactic|cases $e:ident)=>`(tactic|first|(replace $e:ident:=Option.some.inj $e;cases ($e))|cases ($e))
open PySem renaming wpAny_bind→Ac,wpAny_pure→Aj,wpAny_field→B0,wpAny_setField_rec→Ed,wpAny_mono→Di,wpAny_truthy_bool→Ee,wpAny_call_entry→C3,wpAny_seqItems→Ef
open List renaming length_map→Ai,getElem?_eq_some_iff→Bd,getElem?_eq_getElem→Ba,size_toArray→AQ,length_append→A4,getElem?_map→AX,mem_singleton→A8,mem_cons→AL,map_append→A7,mem_append→Br,map_cons→Be,not_mem_nil→BW,mem_of_getElem?→Ct,length_cons→B1,append_assoc→Cd,length_take→B9,take_add_one→Cu,take_length→Ck,mem_append_right→Dw,mem_cons_self→C6,replicate_succ→Dj,take_of_length_le→DR,getElem?_set_ne→Dy,mem_cons_of_mem→DU,length_set→CI,mem_filter→C7,append_nil→C8,map_map→Cf,pairwise_append→Eh,mem_append_left→Ei,nodup_cons→Dk,mem_map→Cv,nodup_append→El,map_nil→Da,length_drop→En,length_filter_le→Fd,flatMap_append→Fg,getD_eq_getElem?_getD→F4,length_range→Fj,eraseIdxIfInBounds_toArray→GN,map_congr_left→FD,pairwise_cons→FE,nil_append→Fm,flatten_cons→FF,drop_zero→Fp,drop_eq_getElem_cons→GO,all_eq_true→FI,replicate_zero→F8,range_succ→FJ,length_nil→FK,find?_cons→FL,getElem?_set_self→GS,pairwise_map→F9,getElem?_nil→Ga,eraseIdx_sublist→GU
open PySem.Heap renaming get?_push_of_some→AH,get?_push_size→AZ,size_push→DV,get?_update_other→F5,get?_push_ne→Gb,get?_update_self→GV
open Nat renaming le_refl→Al,zero_add→Aq,le_trans→Aw,lt_of_lt_of_le→A3,zero_le→AR,ne_of_lt→Bf,lt_of_le_of_lt→Cc,le_of_lt→Bw,le_add_right→Ce,add_le_add_left→C5,le_of_eq→BX,add_lt_add_left→Ej,lt_irrefl→CJ,min_eq_left→DC,add_comm→CK,succ_le_succ→Em,add_sub_cancel'→Ff,add_assoc→Eo,lt_of_le_of_ne→Fh,le_add_left→EV,le_of_lt_succ→Fi,le_antisymm→Fk,add_lt_of_lt_sub→F6,add_le_add_right→F7,le_of_not_lt→FH,add_sub_cancel_left→GQ,le_of_succ_le_succ→GR,succ_pos→Fq
open Bool renaming false_ne_true→BQ,false_eq_true→BV,and_self→C9,not_true→Dl,and_eq_true_iff→Fe,eq_iff_iff→Fo,not_false→FN
open Array renaming getElem?_eq_getElem→Eg,length_toList→Dz,toList_append→Ek,getElem?_toList→FC,getElem?_eq_none→GT
open Int renaming toNat_natCast→CH,le_refl→EW
open Option renaming bind_some→EE,none_or→FM
open PySem PySem.Spec PyProof.Rows
open PySem.W renaming Frag→FG
open PySem.W (nsIn keepIn codeIn mg_of mg_none_of fnOf sortI eq_sortI)
def af:type_of% @wpS_bind:=@wpS_bind
def al:type_of% @wpS_pure:=@wpS_pure
def bb:type_of% @wpS_forRange:=@wpS_forRange
def bc:type_of% @wpAny_rule:=@wpAny_rule
def aZ:type_of% @wpS_mono:=@wpS_mono
def bt:type_of% @wpS_modify:=@wpS_modify
def aI:type_of% @decide_eq_false:=@decide_eq_false
def aV:type_of% @decide_eq_true:=@decide_eq_true
def ce:type_of% @beq_self_eq_true:=@beq_self_eq_true
set_option Elab.async false
set_option linter.all false
set_option maxRecDepth 100000
set_option tactic.hygienic false
set_option maxHeartbeats 0
local macro_rules
 | `(tactic| omega)=>`(tactic| first|with_reducible assumption|with_reducible exact Nat.le_refl _|with_reducible exact Nat.zero_le _|lia|omega +splitDisjunctions)
def uR:=PyProof.Rows.ld_const._auto_3
def z0a(h:True:=by first | exact .inl rfl | exact .inr rfl | assumption):True:=h
def z0b(h:True:=by first | exact nobehind _ 'z' 'z' | rfl):True:=h
def z0c(h:True:=by intro _;rfl):True:=h
def z0d(h:True:=by with_unfolding_all rfl):True:=h
def z0e(h:True:=by ((repeat intro _);rfl)):True:=h
def uD:=PyProof.Rows.ld_const._auto_5
namespace L2
abbrev As:=Sum Int Str
def Dc:As->Value->Bool
 | .inl k,v=>Value.isInt k v
 | .inr x,v=>Value.isStrOf x v
def JO(w:World):As->Int
 | .inl k=>hashInt k
 | .inr x=>hashStr w x
theorem bo:∀{k:As} {v:Value},Dc k v=true->(∃i t,k=Sum.inl i/\v=Value.int i t)\/(∃x t,k=Sum.inr x/\v=Value.str x t)
 | .inl i,v,h=>by
   obtain⟨t,e⟩:=Value.isInt_shape (k:=i) (v:=v) h;exact .inl ⟨i,t,rfl,e⟩
 | .inr x,v,h=>by
   obtain⟨t,e⟩:=Value.isStrOf_shape (x:=x) (v:=v) h;exact .inr ⟨x,t,rfl,e⟩
def iI(i:Int)(t:Tok):Dc (.inl i) (.int i t)=true:=by simp[Dc,Value.isInt]
def iJ(x:Str)(t:Tok):Dc (.inr x) (.str x t)=true:=by simp[Dc,Value.isStrOf]
def ni(a b:Int):decide ((Sum.inl a:As)=Sum.inl b)=(a == b):=by
 by_cases e:a=b
 ·subst e;simp
 ·have h:¬(Sum.inl a:As)=Sum.inl b:=λq=>e (Sum.inl.inj q)
  rw[aI h];exact(beq_eq_false_iff_ne.mpr e).symm
def nk(a b:Str):decide ((Sum.inr a:As)=Sum.inr b)=decide (a=b):=by
 by_cases e:a=b
 ·subst e;simp
 ·have h:¬(Sum.inr a:As)=Sum.inr b:=λq=>e (Sum.inr.inj q)
  rw[aI h,aI e]
def np(a:Int)(b:Str):decide ((Sum.inl a:As)=Sum.inr b)=false:=aI (λq=>nomatch q)
def nq(a:Str)(b:Int):decide ((Sum.inr a:As)=Sum.inl b)=false:=aI (λq=>nomatch q)
def BI(prog:Program)(w:World):PySem.KeyKind prog w As where
 is:=Dc
 hash:=JO w
 inj:=λv a b ha hb=>by
  rcases bo ha with⟨i,t,rfl,rfl⟩ | ⟨x,t,rfl,rfl⟩
  ·rcases bo hb with⟨j,u,rfl,e⟩ | ⟨y,u,rfl,e⟩
   ·injection e with e1 _;rw[e1]
   ·exact nomatch e
  ·rcases bo hb with⟨j,u,rfl,e⟩ | ⟨y,u,rfl,e⟩
   ·exact nomatch e
   ·injection e with e1 _;rw[e1]
 byValue:=λk v h=>by
  rcases bo h with⟨i,t,rfl,rfl⟩ | ⟨x,t,rfl,rfl⟩<;>rfl
 pyHash:=λhv h=>by
  rcases bo hv with⟨i,t,rfl,rfl⟩ | ⟨x,t,rfl,rfl⟩
  ·exact wpAny_pyHash_int h
  ·exact wpAny_pyHash_str h
 eqBool:=λhu hv h=>by
  rcases bo hu with⟨i,t,rfl,rfl⟩ | ⟨x,t,rfl,rfl⟩
  ·rcases bo hv with⟨j,u,rfl,rfl⟩ | ⟨y,u,rfl,rfl⟩
   ·rw[ni] at h;exact wpAny_eqBool_int h
   ·rw[np] at h;exact SeqAt.EqAt.int_str i t y u _ _ _ _ h
  ·rcases bo hv with⟨j,u,rfl,rfl⟩ | ⟨y,u,rfl,rfl⟩
   ·rw[nq] at h;exact SeqAt.EqAt.str_int x t j u _ _ _ _ h
   ·rw[nk] at h;exact wpAny_eqBool_str h
 «strs»:=λk x t v h=>by
  rcases bo h with⟨i,u,rfl,e⟩ | ⟨y,u,rfl,e⟩
  ·exact nomatch e
  ·injection e with e1 _
   subst e1;cases v<;>rfl
def nr(prog:Program)(w:World)(i:Int)(t:Tok):(BI prog w).is (.inl i) (.int i t)=true:=iI i t
def nt(prog:Program)(w:World)(x:Str)(t:Tok):(BI prog w).is (.inr x) (.str x t)=true:=iJ x t
set_option genInjectivity true in
inductive Ak where
 | inl (i:Int) | inr (x:Str) | t (l:List As)
 deriving DecidableEq
def Fs(prog:Program)(w:World):Ak->Int
 | .inl i=>(BI prog w).hash (.inl i)
 | .inr x=>(BI prog w).hash (.inr x)
 | .t l=>tupleKeyHash (BI prog w) l
def HA:Ak->Nat
 | .t l=>l.length+1
 | _=>1
def B2(prog:Program)(w:World)(h:Heap):Ak->Value->Prop
 | .inl i,v=>Dc (.inl i) v=true
 | .inr x,v=>Dc (.inr x) v=true
 | .t l,v=>∃b,v=.ref b/\IsTupleKey (BI prog w) h l b
def CQ(prog:Program)(w:World)(h:Heap)(ks:List Ak)(a:Addr):Prop:=∃o items n,h.get? a=some o/\o.cls=.type "tuple"/\o.data=.seq items n/\Paired (B2 prog w h) ks items.toList
def CQ.typeIs{s:Shared}{b:List Ak}{a:Addr}(x:CQ prog w s.heap b a):s.TypeIs (.ref a) "tuple":=let ⟨o,_,_,a,c,_⟩:=x;⟨o,a,c⟩
def nu{h:Heap}{x y:Ak}{v:Value}(f:B2 prog w h x v)(d:B2 prog w h y v):x=y:=by
 have h:∀{a b:As},Dc a v=true->Dc b v=true->a=b:=λp q=>(BI prog w).inj _ _ _ p q
 have g:∀{a:As} {c:Addr},Dc a v=true->v=.ref c->False:=λp e=>by
  rcases bo p with⟨_,_,_,e'⟩ | ⟨_,_,_,e'⟩<;>rw[e] at e'<;>cases e'
 cases x<;>cases y<;>simp only[B2] at f d
 ·have:=h f d;cases this;rfl
 ·have:=h f d;cases this
 ·obtain⟨b,e,_⟩:=d;exact(g f e).elim
 ·have:=h f d;cases this
 ·have:=h f d;cases this;rfl
 ·obtain⟨b,e,_⟩:=d;exact(g f e).elim
 ·obtain⟨b,e,_⟩:=f;exact(g d e).elim
 ·obtain⟨b,e,_⟩:=f;exact(g d e).elim
 ·obtain⟨b,e,q⟩:=f
  obtain⟨c,e',a⟩:=d;rw[e] at e';cases e';rw[q.inj a]
theorem iK{h:Heap}:∀{x y:List Ak} {e:List Value},Paired (B2 prog w h) x e->Paired (B2 prog w h) y e->x=y
 | _,_,_,.nil,.nil=>rfl
 | _,_,_,.cons a b,.cons c d=>by rw[nu a c,iK b d]
def nv{h a:Heap}{k:Ak}{v:Value}{d:Addr}{o:Obj}{es ep}(x:B2 prog w h k v)(f:h.get? d=some o)(c:o.data=.dict es ep)(g:Heap.SameBut d h a):B2 prog w a k v:=by
 cases k with
 | inl i=>exact x
 | inr i=>exact x
 | t l=>obtain⟨b,e,q⟩:=x;exact{b,e,q.keeps f c g}
def nw{k:Ak}{v:Value}{Q:Int->Shared->Prop}(c:A.units<cLine)(h:B2 prog w s.heap k v)(a:Q (Fs prog w k) { s with toks:=s.toks+HA k }):wpAny 'r' A (PySem.pyHash v) Q E s:=by
 cases k with
 | inl i=>exact(BI prog w).pyHash (k:=.inl i) h a
 | inr i=>exact(BI prog w).pyHash (k:=.inr i) h a
 | t l=>obtain⟨b,rfl,q⟩:=h;exact wpAny_pyHash_tuple c q a
def ny{x y:Ak}{u v:Value}{Q:Bool->Shared->Prop}(g:A.units<cLine)(d:B2 prog w s.heap x u)(c:B2 prog w s.heap y v)(f:Q (decide (x=y)) s):wpAny 'r' A (PySem.eqBool u v) Q E s:=by
 have j:∀{a b:As},Dc a u=true->Dc b v=true->Q (decide (a=b)) s->wpAny 'r' A (PySem.eqBool u v) Q E s:=λp q r=>(BI prog w).eqBool p q r
 have h:∀{l:List As} {b:Addr},IsTupleKey (BI prog w) s.heap l b->∃a,s.heap.IsTuple b a:=λ⟨o,a,n,i,l,e,_⟩=>⟨a,o,i,l,n,e⟩
 cases x<;>cases y<;>simp only[B2] at d c
 ·exact j d c (by simpa using f)
 ·exact j d c (by simpa using f)
 ·obtain⟨b,rfl,q⟩:=c
  obtain⟨a,t⟩:=h q;rcases bo d with⟨i,z,_,rfl⟩ | ⟨i,z,e,_⟩
  ·exact SeqAt.EqAt.int_tuple i z t g _ _ _ _ (by simpa using f)
  ·cases e
 ·exact j d c (by simpa using f)
 ·exact j d c (by simpa using f)
 ·obtain⟨b,rfl,q⟩:=c
  obtain⟨a,t⟩:=h q;rcases bo d with⟨i,z,e,_⟩ | ⟨i,z,_,rfl⟩
  ·cases e
  ·exact SeqAt.EqAt.str_tuple i z t g _ _ _ _ (by simpa using f)
 ·obtain⟨b,rfl,q⟩:=d
  obtain⟨a,t⟩:=h q;rcases bo c with⟨i,z,_,rfl⟩ | ⟨i,z,e,_⟩
  ·exact SeqAt.EqAt.tuple_int i z t g _ _ _ _ (by simpa using f)
  ·cases e
 ·obtain⟨b,rfl,q⟩:=d
  obtain⟨a,t⟩:=h q;rcases bo c with⟨i,z,e,_⟩ | ⟨i,z,_,rfl⟩
  ·cases e
  ·exact SeqAt.EqAt.tuple_str i z t g _ _ _ _ (by simpa using f)
 ·obtain⟨b,rfl,q⟩:=d
  obtain⟨e,rfl,a⟩:=c;exact wpAny_eqBool_tuple g q a (by simpa using f)
def HB(prog:Program)(w:World)(ks:List Ak):Int:=reduceHash (Builtin.Tuple.tupleHashOf (ks.map (Fs prog w)))
def HD(ks:List Ak):Nat:=(ks.map HA).sum+1
def nz{c:List Ak}{a:Addr}{Q:Int->Shared->Prop}(b:A.units+1<cLine)(e:CQ prog w s.heap c a)(h:Q (HB prog w c) { s with toks:=s.toks+HD c }):wpAny 'r' A (PySem.pyHash (.ref a)) Q E s:=by
 have b:=e.typeIs;obtain⟨o,d,n,g,_,f,i⟩:=e;have d:A.units<cLine:=by omega
 unfold pyHash;first | unfold pyHashByItsType | skip
 first | refine Ac (wpAny_cRoomFor_or (.inr d) ?_) | skip
 refine Ac (wpAny_specialOf b F.slot_tuple_hash.lookup ?_);show wpAny _ _ (if (some (Value.builtin "tuple.__hash__") == some Value.none)=true then _ else _) Q E s;rw[if_neg (by rw[beq_builtin_none];exact BQ)];refine Ac (wpAny_specialOf b F.slot_tuple_hash.lookup ?_);show wpAny _ _ (callSpecialIfBoundUnlessNone? (.ref a) "__hash__" _ >>= _) Q E s;refine Ac (wpAny_callSpecialIfBoundUnlessNone?_slot b F.slot_tuple_hash (C3 F.slot_tuple_hash b F.entry_tuple_hash ?_ (F.args_tuple_hash_1 _)));show wpAny _ _ (Builtin.Tuple.tupleItemsOf (.ref a) >>= _) _ _ s;refine Ac (wpAny_tupleItemsOf g f ?_);refine Ac ?_;rw[<-Array.forIn_toList];refine wpAny_forIn_list _
  (λa (b:Array Int) s'=>∃done left,c=done++left/\Paired (B2 prog w s.heap) left a/\b.toList=done.map (Fs prog w)/\s'={ s with toks:=s.toks+(done.map HA).sum })
  _ ?_ ?_ _ _ {[],c,rfl,i,rfl,rfl}
 ·rintro x a b s' ⟨done,left,rfl,f,e,rfl⟩
  cases f with
  | @cons k _ a _ g d=>
    refine Ac (nw (by rw[Around.in1_units];omega) g ?_);first
     | exact Aj {done++[k],a,'d',d,by simp[e],by simp[Eo]}
     | exact Ac (Aj (Aj {done++[k],a,'d',d,by simp[e],by simp[Eo]}))
 ·rintro b s' ⟨done,left,rfl,f,e,rfl⟩
  cases f;rw[C8] at h;show wpAny _ _ (retInt (Builtin.Tuple.tupleHashOf b.toList)) _ _ _;rw[e];refine wpAny_ret_mkInt ?_;unfold HB reduceHash HD at h;show wpAny _ _ (if (decide (-(2:Int) ^ 63<=Builtin.Tuple.tupleHashOf (done.map (Fs prog w)))&&decide (Builtin.Tuple.tupleHashOf (done.map (Fs prog w))<2 ^ 63))=true then _ else _) Q E _;by_cases a:(decide (-(2:Int) ^ 63<=Builtin.Tuple.tupleHashOf (done.map (Fs prog w)))&&decide (Builtin.Tuple.tupleHashOf (done.map (Fs prog w))<2 ^ 63))=true
  ·rw[if_pos a]
   rw[if_pos a] at h;exact Aj (by simpa [Eo] using h)
  ·rw[if_neg a]
   rw[if_neg a] at h;exact Ac (bc (Aj (by simpa [Eo] using h)))
def nA{x y:List Ak}{a b:Addr}{P:Fin->Shared->Prop}(F:A.units<cLine)(e:CQ prog w s.heap x a)(j:CQ prog w s.heap y b)(h:P (.done (.ret (.bool (decide (x=y))))) s) :
 wpAny 'r' A (Builtin.«tuple.__eq__» {[.ref a,.ref b],[]}) P E s:=by
 have a:=j.typeIs;obtain⟨i,z,c,d,_,f,g⟩:=e;obtain⟨l,A,nb,c,_,i,e⟩:=j;show wpAny _ _ (isInstance (.ref b) (.type "tuple") >>= _) _ _ s;refine Ac (wpAny_isInstance a isSubtype_tuple_tuple ?_);simp only[Dl,BV,if_false];refine Ac (wpAny_tupleItemsOf d f ?_);refine Ac (wpAny_tupleItemsOf c i ?_);refine Ac ?_;refine wpAny_forIn_list _
  (λa r s'=>r.1=none/\s'=s/\∃q p b d,a=List.zip b d/\Paired (B2 prog w s.heap) q b/\Paired (B2 prog w s.heap) p d/\decide (q=p)=decide (x=y)/\(b.length == d.length)=(z.size == A.size))
  _ ?_ ?_ _ _ {rfl,rfl,x,y,z.toList,A.toList,rfl,g,e,rfl,'d'}
 ·rintro ⟨u,v⟩ a r s' ⟨s,rfl,q,p,b,d,g,f,e,a,c⟩
  cases f with
  | nil=>simp at g
  | @cons u u' i j C o=>
    cases e with
    | nil=>simp at g
    | @cons v v' n l B m=>
      simp only[List.zip_cons_cons,List.cons.injEq,Prod.mk.injEq] at g;obtain⟨⟨rfl,rfl⟩,rfl⟩:=g;refine Ac (ny (x:=u) (y:=v) F C B ?_);by_cases r:u=v
      ·subst r
       rw[aV rfl];simp only[Dl,BV,if_false];refine Aj {rfl,rfl,i,n,j,l,rfl,o,m,?_,by simpa using c};rw[<-a];by_cases j:i=n
       ·simp[j]
       ·simp[j]
      ·rw[aI r]
       simp only[FN,if_true];have i:decide (x=y)=false:=by rw[<-a];simp[r]
       rw[i] at h;exact Ac (Aj (Aj (Aj h)))
 ·rintro ⟨r1,r2⟩ s' ⟨s,rfl,q,p,b,d,g,f,e,a,c⟩
  simp only at s;subst s;refine Aj ?_;have b:(z.size == A.size)=decide (x=y):=by
   rw[<-a,<-c];cases f with
   | nil=>
     cases e with
     | nil=>simp
     | cons _ _=>simp
   | cons _ _=>
     cases e with
     | nil=>simp
     | cons _ _=>simp at g
  show P (.done (.ret (.bool (z.size == A.size)))) s';rw[b];exact h
def CQ.inj{h:Heap}{x y:List Ak}{a:Addr}(d:CQ prog w h x a)(g:CQ prog w h y a):x=y:=by
 obtain⟨o,a,n,f,_,e,h⟩:=d;obtain⟨o',b,i,c,_,a,d⟩:=g;obtain rfl:o=o':=Option.some.inj (f.symm.trans c);rw[e] at a;injection a with h1 _
 subst h1;exact iK h d
def nB{x y:List Ak}{a b:Addr}{Q:Bool->Shared->Prop}(c:A.units+1<cLine)(d:CQ prog w s.heap x a)(f:CQ prog w s.heap y b)(h:Q (decide (x=y)) s) :
 wpAny 'r' A (PySem.eqBool (.ref a) (.ref b)) Q E s:=by
 unfold PySem.eqBool;try with_reducible refine wpAny_holding ?_
 show wpAny _ _ (if (Value.ref a == Value.ref b)=true then _ else _) Q E s;by_cases c:(Value.ref a == Value.ref b)=true
 ·rw[if_pos c]
  have e:a=b:=by have:=eq_of_beq c;injection this
  subst e;obtain rfl:=d.inj f;exact Ac (bc (Aj (by simpa using h)))
 ·rw[if_neg c]
  exact Ac (wpAny_richCompare_same_room (op:=.Eq) d.typeIs f.typeIs F.slot_tuple_eq
   (C3 F.slot_tuple_eq d.typeIs F.entry_tuple_eq (nA (by rw[Around.in1_units];omega) d f {_,rfl,(λe=>nomatch e),Ee h}) (F.args_tuple_eq_2 _ _)) 'o')
def nC{p:List As}{a:Addr}{n:Nat}{Q:Bool->Shared->Prop}(g:IsTupleKey (BI prog w) s.heap p a)(h:Q true s):wpAny 'r' A (eqIsQuiet (n+1) (.ref a)) Q E s:=by
 have i:=g.typeIs;obtain⟨o,d,m,l,_,j,q⟩:=g;unfold eqIsQuiet;refine Ac (wpAny_specialOf i F.slot_tuple_eq.lookup ?_);show wpAny _ _ (isInstance (.ref a) (.type "tuple") >>= _) _ _ s;refine Ac (wpAny_isInstance i isSubtype_tuple_tuple ?_);simp only[Dl,BV,if_false];refine Ac (Ef l j ?_);refine Ac ?_;show wpAny _ _ (forIn d _ _) _ _ s;rw[<-Array.forIn_toList];refine wpAny_forIn_list _ (λc r s'=>r.1=none/\s'=s/\∀v∈c,carriedByValue v=true) _ ?_ ?_ _ _ ⟨rfl,rfl,q.byValue⟩
 ·rintro v c r s' ⟨e,rfl,b⟩
  rw[eqIsQuiet_byValue _ (b v C6)];refine Ac (Aj ?_);simp only[Dl,BV,if_false];exact Aj {rfl,rfl,λu f=>b u (DU _ f)}
 ·rintro ⟨r1,r2⟩ s' ⟨e,rfl,_⟩
  simp only at e;subst e;exact Aj h
def nD{k:Ak}{v:Value}{n:Nat}{Q:Bool->Shared->Prop}(a:B2 prog w s.heap k v)(h:Q true s):wpAny 'r' A (eqIsQuiet (n+1) v) Q E s:=by
 have c:∀{k:As},Dc k v=true->wpAny 'r' A (eqIsQuiet (n+1) v) Q E s:=λz=>by
  rw[eqIsQuiet_byValue _ ((BI prog w).byValue _ _ z)];exact Aj h
 cases k with
 | inl i=>exact c a
 | inr i=>exact c a
 | t l=>obtain⟨b,rfl,q⟩:=a;exact nC q h
def nE{d:List Ak}{a:Addr}{Q:Bool->Shared->Prop}(c:CQ prog w s.heap d a)(h:Q true s):wpAny 'r' A (eqIsQuiet 8 (.ref a)) Q E s:=by
 have e:=c.typeIs;obtain⟨o,b,m,g,_,f,i⟩:=c;unfold eqIsQuiet;refine Ac (wpAny_specialOf e F.slot_tuple_eq.lookup ?_);show wpAny _ _ (isInstance (.ref a) (.type "tuple") >>= _) _ _ s;refine Ac (wpAny_isInstance e isSubtype_tuple_tuple ?_);simp only[Dl,BV,if_false];refine Ac (Ef g f ?_);refine Ac ?_;show wpAny _ _ (forIn b _ _) _ _ s;rw[<-Array.forIn_toList];refine wpAny_forIn_list _ (λa r s'=>r.1=none/\s'=s/\∃left,Paired (B2 prog w s.heap) left a) _ ?_ ?_ _ _ ⟨rfl,rfl,d,i⟩
 ·rintro v a r s' ⟨c,rfl,left,b⟩
  cases b with
  | cons a b=>
    refine Ac (nD (n:=6) a ?_);simp only[Dl,BV,if_false];exact Aj {rfl,rfl,_,b}
 ·rintro ⟨r1,r2⟩ s' ⟨c,rfl,_⟩
  simp only at c;subst c;exact Aj h
theorem iL{h a:Heap}{d:Addr}{o:Obj}{es ep}(e:h.get? d=some o)(c:o.data=.dict es ep)(i:Heap.SameBut d h a):∀{g:List Ak} {f:List Value},Paired (B2 prog w h) g f->Paired (B2 prog w a) g f
 | _,_,.nil=>.nil
 | _,_,.cons a b=>.cons (nv a e c i) (iL e c i b)
def CQ.keeps{h b:Heap}{i:List Ak}{a d:Addr}{o:Obj}{es ep}(x:CQ prog w h i a)(j:h.get? d=some o)(g:o.data=.dict es ep)(l:Heap.SameBut d h b):CQ prog w b i a:=by
 obtain⟨o',c,n,e,m,b,h⟩:=x;have f:a≠d:=by
  rintro rfl;obtain rfl:o'=o:=Option.some.inj (e.symm.trans j);rw[g] at b;exact nomatch b
 exact{o',c,n,(l.2 a f).trans e,m,b,iL j g l h}
def D1(prog:Program)(w:World):HeapKind prog w (List Ak) where
 is:=CQ prog w
 hash:=HB prog w
 draws:=HD
 room:=λA=>A.units+1<cLine
 inj:=λhx hy=>hx.inj hy
 keeps:=λx ho hd hs=>x.keeps ho hd hs
 pyHash:=λhu hk h=>nz hu hk h
 eqBool:=λhu hx hy h=>nB hu hx hy h
 quiet:=λhk h=>nE hk h
set_option genInjectivity true in
inductive V where
 | non | bl (b:Bool) | int (i:Int) | str (x:Str) | byt (b:Array UInt8) | flt (b:UInt64) | ref (a:Addr) | ty (n:String)
 deriving DecidableEq
def An:V->Value->Prop
 | .non,u=>u=Value.none
 | .bl b,u=>u=Value.bool b
 | .int i,u=>∃t,u=Value.int i t
 | .str x,u=>∃t,u=Value.str x t
 | .byt b,u=>∃t,u=Value.bytes b t
 | .flt b,u=>∃t,u=Value.float b t
 | .ref a,u=>u=Value.ref a
 | .ty n,u=>u=Value.type n
abbrev Ao:List V->List Value->Prop:=Paired An
def Ao.length{a:List V}{b:List Value}(r:Ao a b):a.length=b.length:=Paired.length r
theorem Ao.get:∀{b:List V} {a:List Value} {i:Nat} {x:V},Ao b a->b[i]?=some x->∃u,a[i]?=some u/\An x u
 | _,_,_,_,.nil,e=>by simp at e
 | _,_,0,_,.cons r _,e=>by simp at e;subst e;exact{_,rfl,r}
 | _,_,i+1,x,.cons _ t,e=>by
   obtain⟨u,d,c⟩:=Ao.get (i:=i) (x:=x) t (by simpa using e);exact{u,by simpa using d,c}
theorem Ao.set(r:An x u):∀{b:List V} {a:List Value} (i:Nat),Ao b a->Ao (b.set i x) (a.set i u)
 | _,_,_,.nil=>.nil
 | _,_,0,.cons _ t=>.cons r t
 | _,_,i+1,.cons q t=>.cons q (Ao.set r i t)
theorem Ao.append:∀{c b:List V} {a d:List Value},Ao c a->Ao b d->Ao (c++b) (a++d)
 | _,_,_,_,.nil,s=>s
 | _,_,_,_,.cons r t,s=>.cons r (Ao.append t s)
theorem Ao.take:∀{a:List V} {b:List Value} (n:Nat),Ao a b->Ao (a.take n) (b.take n)
 | _,_,0,_=>.nil
 | _,_,_+1,.nil=>.nil
 | _,_,n+1,.cons r t=>.cons r (Ao.take n t)
theorem Ao.drop:∀{a:List V} {b:List Value} (n:Nat),Ao a b->Ao (a.drop n) (b.drop n)
 | _,_,0,r=>r
 | _,_,_+1,.nil=>.nil
 | _,_,n+1,.cons _ t=>Ao.drop n t
def DJ:Option V->Option Value->Prop
 | some v,some u=>An v u
 | none,none=>True
 | _,_=>False
instance KV{L:Type}:List (L×V)->List (L×Value)->Prop:=Paired λ(p:L×V) (q:L×Value)=>p.1=q.1/\An p.2 q.2
instance kV:As->V
 | .inl i=>.int i
 | .inr x=>.str x
inductive HO where
 /-- a list -/
 | lst (xs:List V)
 /-- a tuple (never changes) -/
 | tup (xs:List V)
 /-- a dict whose keys are ints and texts;one whose keys are tuples of ints and texts (the empty one is both) -/
 | dK (kvs:List (As×V)) | dT (kvs:List (List Ak×V))
 /-- a set of ints: its members,its size -/
 | set (S:Int->Bool) (n:Nat)
 /-- an instance of the class at C,its dict at dx,its attributes -/
 | ins (C dx:Addr) (fs:List (Str×V))
 /-- the dict of the instance at x -/
 | own (x:Addr)
 /-- the dict of an exception -/
 | xd (fs:List (Str×V))
 /-- a bound method,f of x -/
 | met (f x:Addr)
 /-- a range object lo,lo+1,.. below hi -/
 | rng (lo hi:Int)
 /-- a thing that is known to the object (the script;a dict while a loop walks it): read,never written while it is so -/
 | frz (o:Obj) (u:HO)
 /-- a code object's table -/
 | tbl (ps:Array Value)
 /-- any other thing,by what is true of its one object (a def of one's own: SetO a S n:=HO.ext λh=>..) -/
 | ext (φ:Heap->Prop)
abbrev Hp:=Addr->Option HO
def Af(H:Hp)(a:Addr)(o:HO):Hp:=λb=>if b=a then some o else H b
instance KIs(H:Hp):Ak->V->Prop
 | .inl i,v=>v=.int i
 | .inr x,v=>v=.str x
 | .t l,v=>∃b,v=.ref b/\H b=some (.tup (l.map kV))
def Cg(H:Hp)(b:Addr)(k:List Ak):Prop:=∃vs,H b=some (.tup vs)/\Paired (KIs H) k vs
theorem nF{H c:Hp}(d:∀b a,H b=some (.tup a)->c b=some (.tup a)):∀{k:Ak} {v:V},KIs H k v->KIs c k v
 | .inl _,_,h=>h
 | .inr _,_,h=>h
 | .t _,_,⟨b,e,q⟩=>{b,e,d _ _ q}
theorem iM{H a:Hp}(e:∀b d,H b=some (.tup d)->a b=some (.tup d)):∀{k:List Ak} {c:List V},Paired (KIs H) k c->Paired (KIs a) k c
 | _,_,.nil=>.nil
 | _,_,.cons a b=>.cons (nF e a) (iM e b)
def Cg.keeps{H d:Hp}(a:∀b c,H b=some (.tup c)->d b=some (.tup c)){b:Addr}{k:List Ak}(h:Cg H b k):Cg d b k:=
 let ⟨f,e,q⟩:=h;{f,a _ _ e,iM a q}
def aw:Af H a o a=some o:=by unfold Af;rw[if_pos rfl]
def aj(h:b≠a):Af H a o b=H b:=by unfold Af;rw[if_neg h]
open H in
def upd_upd:Af (Af H a o) a u=Af H a u:=by
 funext b;unfold Af;split<;>rfl
def bQ{H:Hp}{a b:Addr}{o u:HO}(h:H a=some o)(c:H b=some u)(d:o≠u):a≠b:=by
 intro e;subst e;rw[h] at c;exact d (Option.some.inj c)
def aF{H:Hp}{a b:Addr}{o:HO}(h:H a=some o)(c:H b=none):a≠b:=by
 intro e;subst e;rw[h] at c;cases c
section
variable(P:Program)(w:World)
instance NoD(h:Heap)(a:Addr):Prop:=∃o,h.get? a=some o/\o.dict=none
def Bx(H:Hp)(h:Heap)(a:Addr):HO->Prop
 | .lst xs=>xs.length<=sizeLine/\∃(its:List Value) (n:Nat),Ao xs its/\h.get? a=some { cls:=.type "list",data:=.seq its.toArray n }
 | .tup xs=>xs.length<=sizeLine/\∃its:List Value,Ao xs its/\IsTup h a its.toArray/\NoD h a
 | .dK kvs=>kvs.length<=sizeLine/\(a == sysModules)=false/\∃vs,KV kvs vs/\h.DictOf (BI P w) a vs
 | .dT kvs=>kvs.length<=sizeLine/\(a == sysModules)=false/\∃xs:List (List Ak×Addr×Value),
  Paired (λ(p:List Ak×V) (q:List Ak×Addr×Value)=>p.1=q.1/\Cg H q.2.1 p.1/\An p.2 q.2.2) kvs xs/\
  ∃o es ep,h.get? a=some o/\o.ExactDict/\o.data=.dict es ep/\es.toList=xs.map (entryOfKey (D1 P w))/\(xs.map (·.1)).Nodup
 | .set S n=>h.SetOf (intKind P w) a S n
 | .ins C dx fs=>H dx=some (.own a)/\fs.length<=1000/\dx≠a/\h.get? a=some (PySem.W.instObj C dx)/\
  ∃mA,h.Ns1 dx mA/\(∀f,DJ (fs.lookup f) (mA f))/\PySem.Within mA (fs.map (·.1))
 | .own _=>∃o,h.get? a=some o
 | .xd fs=>∃mA,h.Ns1 a mA/\∀f,DJ (fs.lookup f) (mA f)
 | .rng lo hi=>∃t u v,h.get? a=some { cls:=.type "range",data:=.fields #[.int lo t,.int hi u,.int 1 v] }
 | .frz o u=>h.get? a=some o/\Bx H h a u
 | .tbl ps=>h.get? a=some { cls:=.none,data:=.fields ps }
 | .met f x=>h.get? a=some (PySem.W.methodObj (.ref f) (.ref x))
 | .ext φ=>φ h/\(∃o,h.get? a=some o)/\∀h1 h2:Heap,φ h1->(∀o,h1.get? a=some o->h2.get? a=some o)->φ h2
def Bm(H:Hp)(h:Heap):Prop:=∀a o,H a=some o->Bx P w H h a o
end
theorem Bx.lt(x:Bx P w H h a o):a<h.objs.size:=by
 cases o with
 | lst b=>obtain⟨_,_,_,_,e⟩:=x;exact Heap.lt_size e
 | tup b=>obtain⟨_,_,_,p,_⟩:=x;exact p.lt
 | dK b=>obtain⟨_,_,_,_,o,_,_,e,_⟩:=x;exact Heap.lt_size e
 | dT b=>obtain⟨_,_,_,_,o,_,_,e,_⟩:=x;exact Heap.lt_size e
 | set S n=>obtain⟨o,_,_,_,e,_⟩:=x;exact Heap.lt_size e
 | ins C dx b=>obtain⟨_,_,_,e,_⟩:=x;exact Heap.lt_size e
 | own y=>obtain⟨_,e⟩:=x;exact Heap.lt_size e
 | xd b=>obtain⟨_,⟨_,_,_,e,_⟩,_⟩:=x;exact Heap.lt_size e
 | rng c b=>obtain⟨_,_,_,e⟩:=x;exact Heap.lt_size e
 | frz b u=>obtain⟨e,_⟩:=x;exact Heap.lt_size e
 | tbl b=>exact Heap.lt_size (show h.get? a=some _ from x)
 | met f y=>exact Heap.lt_size (show h.get? a=some _ from x)
 | ext φ=>obtain⟨_,⟨_,e⟩,_⟩:=x;exact Heap.lt_size e
theorem Paired.mapP{α β:Type}{F G:α->β->Prop}:∀{c:List α} {d:List β},Paired F c d->(∀a b,F a b->G a b)->Paired G c d
 | _,_,.nil,_=>.nil
 | _,_,.cons r t,f=>.cons (f _ _ r) (Paired.mapP t f)
theorem Bx.stay(x:Bx P w H h a o)(k:∀b u,(b=a\/H b=some (.own a))->h.get? b=some u->h'.get? b=some u)(s:∀b,H b=some (.own a)->H' b=some (.own a))(l:∀b g,H b=some (.tup g)->H' b=some (.tup g)):Bx P w H' h' a o:=by
 induction o with
 | lst g=>obtain⟨z,d,n,r,e⟩:=x;exact{z,d,n,r,k _ _ (.inl rfl) e}
 | tup g=>obtain⟨z,d,r,⟨b,e,c⟩,i,j,f⟩:=x;exact{z,d,r,{b,k _ _ (.inl rfl) e,c},i,k _ _ (.inl rfl) j,f}
 | dK d=>obtain⟨z,y,m,r,b,es,f,e,c⟩:=x;exact{z,y,m,r,b,es,f,k _ _ (.inl rfl) e,c}
 | dT d=>
   obtain⟨z,y,g,r,b,es,f,e,c⟩:=x;exact{z,y,g,Paired.mapP r λp q z=>{z.1,z.2.1.keeps l,z.2.2},b,es,f,k _ _ (.inl rfl) e,c}
 | set S n=>obtain⟨b,es,f,t,e,c⟩:=x;exact{b,es,f,t,k _ _ (.inl rfl) e,c}
 | ins C dx m=>
   obtain⟨d,z,l,e,mA,⟨i,es,f,j,c⟩,r⟩:=x;exact{s _ d,z,l,k _ _ (.inl rfl) e,mA,{i,es,f,k _ _ (.inr d) j,c},r}
 | own y=>obtain⟨b,e⟩:=x;exact{b,k _ _ (.inl rfl) e}
 | xd m=>obtain⟨mA,⟨i,es,f,e,c⟩,r⟩:=x;exact{mA,{i,es,f,k _ _ (.inl rfl) e,c},r}
 | rng f d=>obtain⟨t,u,v,e⟩:=x;exact{t,u,v,k _ _ (.inl rfl) e}
 | frz b u c=>obtain⟨e,q⟩:=x;exact{k _ _ (.inl rfl) e,c q}
 | tbl b=>
   have e:h.get? a=some { cls:=.none,data:=.fields b }:=x;show h'.get? a=some { cls:=.none,data:=.fields b };exact k a _ (.inl rfl) e
 | met f y=>
   have e:h.get? a=some (PySem.W.methodObj (.ref f) (.ref y)):=x;show h'.get? a=some (PySem.W.methodObj (.ref f) (.ref y));exact k a _ (.inl rfl) e
 | ext φ=>obtain⟨p,⟨o,e⟩,a⟩:=x;exact{a _ _ p λo q=>k _ _ (.inl rfl) q,{o,k _ _ (.inl rfl) e},a}
def Bm.lt(x:Bm P w H h)(e:H a=some o):a<h.objs.size:=(x a o e).lt
theorem Bm.fresh(x:Bm P w H h)(e:h.objs.size<=a):H a=none:=by
 cases q:H a with
 | none=>rfl
 | some u=>exact absurd (A3 (x.lt q) e) (CJ _)
def Bm.kept(x:Bm P w H h)(k:∀b u,h.get? b=some u->h'.get? b=some u):Bm P w H h':=λa o e=>
 (x a o e).stay (λb u _ q=>k b u q) (λ_ q=>q) λ_ _ q=>q
def Bm.laid(x:Bm P w H h)(k:∀b u,h.get? b=some u->h'.get? b=some u)(g:h.objs.size<=a)(c:Bx P w (Af H a o) h' a o):Bm P w (Af H a o) h':=λb u e=>by
 have f:=x.fresh g;by_cases d:b=a
 ·subst d;rw[aw] at e;cases e;exact c
 ·rw[aj d] at e
  exact(x b u e).stay (λc v _ q=>k c v q) (λc q=>by rw[aj (aF q f)];exact q) λc a q=>by rw[aj (aF q f)];exact q
instance Rd(H:Hp)(a:Addr)(u:HO):Prop:=H a=some u\/∃o,H a=some (.frz o u)
def Rd.ok(r:Rd H a u)(x:Bm P w H h):Bx P w H h a u:=by
 rcases r with r | ⟨o,r⟩
 ·exact x a u r
 ·obtain⟨_,q⟩:=x a _ r
  exact q
instance Mut:Option HO->Prop
 | some (.lst _)=>True
 | some (.dK _)=>True
 | some (.dT _)=>True
 | some (.set _ _)=>True
 | some (.ins _ _ _)=>True
 | some (.ext _)=>True
 | _=>False
def Bm.write(m:Bm P w H h)(a:Mut (H x))(l:e=x\/H e=some (.own x))(k:∀b u,b≠e->h.get? b=some u->h'.get? b=some u)(i:∃u,h'.get? e=some u)(j:Bx P w (Af H x o') h' x o'):Bm P w (Af H x o') h':=λb u q=>by
 have d:∀c y,H c=some (.own y)->c≠x:=λc y r z=>by subst z;rw[r] at a;exact a
 have f:∀c g,H c=some (.tup g)->c≠x:=λc g r z=>by subst z;rw[r] at a;exact a
 by_cases h:b=x
 ·subst h;rw[aw] at q;cases q;exact j
 ·rw[aj h] at q
  by_cases a:b=e
  ·have j:H b=some (.own x):=by
    rcases l with z | z
    ·exact absurd (a.trans z) h
    ·rw[a];exact z
   rw[q] at j;cases j;obtain⟨v,e⟩:=i;exact{v,by rw[a];exact e}
  ·refine(m b u q).stay (λc v e r=>k c v ?_ r) (λc r=>by rw[aj (d c b r)];exact r) λc g r=>by rw[aj (f c g r)];exact r
   rcases e with rfl | e
   ·exact a
   ·rintro rfl
    rcases l with z | z
    ·exact d c b e z
    ·rw[e] at z;cases z;exact h rfl
structure Un(fs ex:List Addr)(H H':Hp)(h h':Heap):Prop where
 keep:∀b o,h.get? b=some o->H b=none->b∉fs->b∉ex->h'.get? b=some o
 slot:∀b o,h.get? b=some o->H b=none->b∈fs->b∉ex->∃sl,h'.get? b=some { o with slots:=sl }
 free:∀b o,h.get? b=some o->H b=none->b∉ex->H' b=none
 there:∀b o,h.get? b=some o->b∉ex->∃o',h'.get? b=some o'
 tups:∀b xs,H b=some (.tup xs)->H' b=some (.tup xs)
 frzs:∀b o u,H b=some (.frz o u)->H' b=some (.frz o u)
 tbls:∀b ps,H b=some (.tbl ps)->∃more,H' b=some (.tbl (ps++more))
def Un.any(u:Un fs ex H H1 h h1){b:Addr}{a:Obj}(q:h.get? b=some a)(n:H b=none)(d:b∉ex):∃e,h1.get? b=some { a with slots:=e }:=by
 by_cases c:b∈fs
 ·exact u.slot b a q n c d
 ·exact{a.slots,u.keep b a q n c d}
def Un.kept(k:∀b u,h.get? b=some u->h'.get? b=some u):Un fs ex H H h h':=
 {λb a q _ _ _=>k b a q,λb a q _ _ _=>{a.slots,k b a q},λ_ _ _ n _=>n,λb a q _=>{a,k b a q},λ_ _ q=>q,λ_ _ _ q=>q,λ_ a q=>{#[],by rw[q];simp}}
def Un.refl:Un fs ex H H h h:=Un.kept λ_ _ q=>q
def Un.laid(k:∀b u,h.get? b=some u->h'.get? b=some u)(d:h.objs.size<=a)(c:H a=none):Un fs ex H (Af H a o) h h' where
 keep:=λb u q _ _ _=>k b u q
 slot:=λb u q _ _ _=>{u.slots,k b u q}
 free:=λb u q n _=>by rw[aj (Bf (A3 (Heap.lt_size q) d))];exact n
 there:=λb u q _=>{u,k b u q}
 tups:=λb a q=>by rw[aj (aF q c)];exact q
 frzs:=λb u a q=>by rw[aj (aF q c)];exact q
 tbls:=λb a q=>{#[],by rw[aj (aF q c),q];simp}
def Un.write(a:Mut (H x))(c:e=x\/H e=some (.own x))(k:∀b u,b≠e->h.get? b=some u->h'.get? b=some u)(d:∃u,h'.get? e=some u):Un fs ex H (Af H x o) h h':=by
 have g:∀b,H b=none->b≠x:=λb n z=>by subst z;rw[n] at a;exact a
 have f:∀b,H b=none->b≠e:=λb n z=>by
  subst z;rcases c with r | r
  ·exact g b n r
  ·rw[n] at r;cases r
 have c:∀b u,H b=some u->¬Mut (some u)->b≠x:=λb u q h z=>by subst z;rw[q] at a;exact h a
 refine{λb u q n _ _=>k b u (f b n) q,λb u q n _ _=>{u.slots,k b u (f b n) q},λb u q n _=>by rw[aj (g b n)];exact n,λb u q _=>?_,
  λb a q=>by rw[aj (c b _ q λz=>z)];exact q,λb u a q=>by rw[aj (c b _ q λz=>z)];exact q,λb a q=>{#[],by rw[aj (c b _ q λz=>z),q];simp}}
 by_cases a:b=e
 ·subst a;exact d
 ·exact{u,k b u a q}
instance trk(h:Heap)(H:Hp):List Addr:=(List.range h.objs.size).filter λa=>(H a).isSome
def EF(h:Heap)(H:Hp):Heap:=PySem.W.hideAll h (trk h H)
def nG(h:Heap)(H:Hp):(EF h H).objs.size=h.objs.size:=PySem.W.hideAll_size _ _
def nH(e:h.get? b=some o)(n:H b=none):(EF h H).get? b=some o:=
 PySem.W.hideAll_get _ e λa=>by
  have q:(H b).isSome=true:=(C7.mp a).2;rw[n] at q;simp at q
def nI(e:(EF h H).get? b=some o):h.get? b=some o/\H b=none:=by
 have e':h.get? b=some o:=PySem.W.of_hideAll (trk h H) e;refine{e',?_};cases q:H b with
 | none=>rfl
 | some x=>
   have a:b∈trk h H:=C7.mpr {List.mem_range.mpr (Heap.lt_size e'),by simp[q]};have z:(EF h H).get? b=none:=PySem.W.hideAll_none (trk h H) a;rw[z] at e;cases e
structure Mod(K:FG)(mg:Str->Option Value)(base:Heap):Prop where
 kin:K.In base
 glob:base.Ns mainGlobals mg
 blt:∃mb,base.Ns builtinsNs mb/\∀x:Str,x≠"__name__"->mb x=bootBuiltins x
 nolimit:base.NoLimit
structure Cx where
 prog:Program
 w:World
 K:FG
 mg:Str->Option Value
 base:Heap
 A:Around
 N:List Str
 s₀:Shared
 H₀:Hp
 env:Env
 outer:List Env
 stack:List Env
 ex:List Addr
 fn:Str->Bool
 calm:Bool
 pn:List 'p'
 xe:Value->Shared->Prop
def Ep(l:List Env):List Addr:=l.filterMap (·.frame)
abbrev Cx.fs(X:Cx):List Addr:=Ep X.outer
instance Vis(sc:Scope)(x:Str):Prop:=sc.names.lookup x=some .local\/sc.names.lookup x=some .cell\/sc.names.lookup x=some .free
instance Loc(sc:Scope)(x:Str):Prop:=sc.names.lookup x=some .local\/sc.names.lookup x=some .cell
def JP(env:Env)(h:Heap)(m:Str->Option Value)(x:Str)(u:Value):Prop:=
 (env.kindOf x=some .local/\m x=some u)\/((env.kindOf x=some .cell\/env.kindOf x=some .free)/\∃c,env.cells.lookup x=some c/\h.IsCell c (some u))
structure Cx.Ok(X:Cx):Prop where
 mod:Mod X.K X.mg X.base
 kind:X.env.scope.kind=.function
 glob:X.env.globals=mainGlobals
 blt:X.env.builtins=builtinsNs
 above:X.s₀.heap.objs.size<=X.env.locals
 inj:∀x y c,X.env.cells.lookup x=some c->X.env.cells.lookup y=some c->x=y
 has:∀x,(X.env.kindOf x=some .cell\/X.env.kindOf x=some .free)->∃c,X.env.cells.lookup x=some c
 cab:∀x c,X.fn x=true->X.env.cells.lookup x=some c->X.s₀.heap.objs.size<=c
 hd:X.calm=true->X.A.handled=none
 frames:X.A.frames=some X.stack
 stk:X.stack=X.outer\/(X.stack=X.env::X.outer/\X.env.frame=some X.env.locals)
 exf:∀b∈X.ex,b≠X.env.locals/\∀x c,X.env.cells.lookup x=some c->c≠b
 bs:∀b o,X.base.get? b=some o->X.s₀.heap.get? b=some o/\X.H₀ b=none
 bsz:X.base.objs.size<=X.s₀.heap.objs.size
 noex:∀b o,X.base.get? b=some o->b∉X.ex
 exfs:∀b∈X.ex,b∉X.fs
 funs:X.s₀.heap.FunFrames X.base X.outer
 frf:∀b∈X.fs,X.H₀ b=none
structure Ad(X:Cx)(A0:List 'p')(Y:List (Option V))(H:Hp)(s:Shared):Prop where
 ok:X.Ok
 os:s.os=X.s₀.os
 bare:AllBare s.gens
 base:Un X.fs X.ex X.H₀ H X.s₀.heap s.heap
 loc:∃m,s.heap.Ns X.env.locals m/\∀(i:Nat) (x:Str) (v:V),X.N[i]?=some x->Y[i]?=some (some v)->Vis X.env.scope x->∃u,An v u/\JP X.env s.heap m x u
 cell:∀x c,X.env.cells.lookup x=some c->∃v,s.heap.IsCell c v
 free:H X.env.locals=none
 freeC:∀x c,X.env.cells.lookup x=some c->H c=none
 pin:∀p∈X.pn++A0,s.heap.get? p.1=some p.2/\H p.1=none/\p.1≠X.env.locals/\p.1∉X.fs/\∀v,p.2.data≠.cell v
 hok:Bm X.prog X.w H s.heap
 len:Y.length=X.N.length
section
variable{X:Cx}{A0:List 'p'}{Y:List (Option V)}{H H':Hp}{s:Shared}{h':Heap}
def Cx.Ok.nofr(a:X.Ok)(e:X.base.get? b=some o):b∉X.fs:=λc=>by
 have:=(a.funs.mem c).1;rw[e] at this;cases this
def Ad.bs(I:Ad X A0 Y H s):∀b o,X.base.get? b=some o->s.heap.get? b=some o/\H b=none:=λb o e=>
 {I.base.keep b o (I.ok.bs b o e).1 (I.ok.bs b o e).2 (I.ok.nofr e) (I.ok.noex b o e),I.base.free b o (I.ok.bs b o e).1 (I.ok.bs b o e).2 (I.ok.noex b o e)}
def Ad.bk(I:Ad X A0 Y H s):∀b o,X.base.get? b=some o->s.heap.get? b=some o:=λb o e=>(I.bs b o e).1
def Ad.mod(I:Ad X A0 Y H s):Mod X.K X.mg X.base:=I.ok.mod
def Ad.kIn(I:Ad X A0 Y H s):X.K.In s.heap:=I.ok.mod.kin.keeps I.bk
def Ad.lt(I:Ad X A0 Y H s):X.env.locals<s.heap.objs.size:=let ⟨_,a,_⟩:=I.loc;a.lt
def Ad.sz(I:Ad X A0 Y H s):X.s₀.heap.objs.size<=s.heap.objs.size:=Aw I.ok.above (Bw I.lt)
def Ad.nofs(I:Ad X A0 Y H s)(h:s.heap.objs.size<=a):a∉X.fs:=λb=>by
 obtain⟨_,o,a,_⟩:=I.ok.funs.mem b;exact absurd (A3 (Heap.lt_size a) (Aw I.sz h)) (CJ _)
def Ad.cne(I:Ad X A0 Y H s):∀x c,X.env.cells.lookup x=some c->c≠X.env.locals:=λx c e z=>by
 obtain⟨v,o,f,d⟩:=I.cell x c e;obtain⟨m,⟨o',es,g,b,a,_⟩,_⟩:=I.loc;rw[z,b] at f;cases f;rw[a] at d;cases d
def Ad.funs(I:Ad X A0 Y H s):s.heap.FunFrames X.base X.outer:=by
 have f:∀(l:List Env),(∀b∈Ep l,b∈X.fs)->X.s₀.heap.FunFrames X.base l->s.heap.FunFrames X.base l:=by
  intro l;induction l with
  | nil=>intro _ _;trivial
  | cons env r n=>
    intro g e;obtain⟨i,⟨a,o,d,m,j,h⟩,l⟩:=e;have c:a∈X.fs:=g a (by unfold Ep;rw[List.filterMap_cons,d];exact C6);obtain⟨p,e⟩:=I.base.slot a o j (I.ok.frf a c) c λz=>I.ok.exfs a z c
    exact{i,{a,_,d,m,e,h},n (λb a=>g b (by unfold Ep;rw[List.filterMap_cons,d];exact DU _ a)) l}
 exact f X.outer (λ_ a=>a) I.ok.funs
def Ad.stack(I:Ad X A0 Y H s):s.heap.FunFrames X.base X.stack:=by
 rcases I.ok.stk with e | ⟨e,a⟩
 ·rw[e];exact I.funs
 ·rw[e]
  obtain⟨m,b,_⟩:=I.loc;refine .cons (by rw[I.ok.kind];decide) a b ?_ I.funs;exact Heap.get?_none_of_le (Aw I.ok.bsz I.ok.above)
def Ad.stkSub(I:Ad X A0 Y H s):∀b∈Ep X.stack,b∈X.env.locals::X.fs:=λb a=>by
 rcases I.ok.stk with e | ⟨e,b⟩
 ·rw[e] at a;exact DU _ a
 ·rw[e] at a
  unfold Ep at a;rw[List.filterMap_cons,b] at a;exact a
def Ad.stkFree(I:Ad X A0 Y H s):∀b∈Ep X.stack,H b=none:=λb a=>by
 rcases AL.mp (I.stkSub b a) with e | a
 ·rw[e];exact I.free
 ·obtain⟨_,o,c,_⟩:=I.ok.funs.mem a
  exact I.base.free b o c (I.ok.frf b a) λz=>I.ok.exfs b z a
def Ad.step{g':Array GenState}{t':Nat}{d':Drawn}{ch:List Addr}(I:Ad X A0 Y H s)(j:∀b∈ch,(b∈X.ex\/X.s₀.heap.objs.size<=b)/\b≠X.env.locals/\(∀x c,X.env.cells.lookup x=some c->c≠b)/\∀p∈X.pn++A0,p.1≠b)(h:∀b o,b≠X.env.locals->b∉X.fs->b∉ch->s.heap.get? b=some o->H b=none->h'.get? b=some o)(l:∀b o,b≠X.env.locals->b∈X.fs->b∉ch->s.heap.get? b=some o->H b=none->∃N,h'.get? b=some { o with slots:=N })(f:∀b o,b∉ch->s.heap.get? b=some o->H b=none->H' b=none)(A:∀b o,b∉ch->s.heap.get? b=some o->∃o',h'.get? b=some o')(F:∀b y,H b=some (.tup y)->H' b=some (.tup y))(E:∀b o u,H b=some (.frz o u)->H' b=some (.frz o u))(G:∀b J,H b=some (.tbl J)->∃a,H' b=some (.tbl (J++a)))(ns:∀m,s.heap.Ns X.env.locals m->h'.Ns X.env.locals m)(L:Bm X.prog X.w H' h')(O:AllBare g') :
 Ad X A0 Y H' { s with heap:=h',gens:=g',drawn:=d',toks:=t' }:=by
 have C:∀b o,X.s₀.heap.get? b=some o->b≠X.env.locals:=λb o e=>Bf (A3 (Heap.lt_size e) I.ok.above)
 have i:∀b o,X.s₀.heap.get? b=some o->b∉X.ex->b∉ch:=λb o e a r=>by
  rcases (j b r).1 with z | z
  ·exact a z
  ·exact absurd (A3 (Heap.lt_size e) z) (CJ _)
 have d:∀x c,X.env.cells.lookup x=some c->∀v,s.heap.IsCell c v->h'.IsCell c v:=λx c e v hI1=>by
  obtain⟨o,B,M⟩:=hI1;have g:c∉ch:=λz=>(j c z).2.2.1 x c e rfl
  by_cases n:c∈X.fs
  ·obtain⟨N,q⟩:=l c o (I.cne x c e) n g B (I.freeC x c e)
   exact{_,q,M}
  ·exact{o,h c o (I.cne x c e) n g B (I.freeC x c e),M}
 refine{I.ok,I.os,O,{λb o e n r a=>?_,λb o e n r a=>?_,λb o e n a=>?_,λb o e a=>?_,λb y e=>F b y (I.base.tups b y e),λb o y e=>E b o y (I.base.frzs b o y e),λb J e=>?_},?_,λx c e=>?_,?_,λx c e=>?_,λp O=>?_,L,I.len}
 ·exact h b o (C b o e) r (i b o e a) (I.base.keep b o e n r a) (I.base.free b o e n a)
 ·obtain⟨N,q⟩:=I.base.slot b o e n r a
  obtain⟨F,E⟩:=l b _ (C b o e) r (i b o e a) q (I.base.free b o e n a);exact⟨F,E⟩
 ·obtain⟨o',q⟩:=I.base.there b o e a
  exact f b o' (i b o e a) q (I.base.free b o e n a)
 ·obtain⟨o',q⟩:=I.base.there b o e a
  exact A b o' (i b o e a) q
 ·obtain⟨i,q⟩:=I.base.tbls b J e
  obtain⟨a,E⟩:=G b _ q;exact{i++a,by rw[E,Array.append_assoc]}
 ·obtain⟨m,b,a⟩:=I.loc
  refine{m,ns m b,λi x v q E A=>?_};obtain⟨u,r,l⟩:=a i x v q E A;refine{u,r,?_};rcases l with l | ⟨k,c,e,z⟩
  ·exact .inl l
  ·exact .inr {k,c,e,d x c e _ z}
 ·obtain⟨v,z⟩:=I.cell x c e
  exact{v,d x c e v z}
 ·obtain⟨m,⟨o,_,_,B,_⟩,_⟩:=I.loc
  exact f _ o (λz=>(j _ z).2.1 rfl) B I.free
 ·obtain⟨v,o,B,M⟩:=I.cell x c e
  exact f c o (λz=>(j c z).2.2.1 x c e rfl) B (I.freeC x c e)
 ·obtain⟨e,n,a,nf,d⟩:=I.pin p O
  have g:p.1∉ch:=λz=>(j p.1 z).2.2.2 p O rfl
  exact{h p.1 p.2 a nf g e n,f p.1 p.2 g e n,a,nf,d}
def Ad.un{t':Nat}(I:Ad X A0 Y H s)(u:Un X.fs [] H H' s.heap h')(c:Bm X.prog X.w H' h'):Ad X A0 Y H' { s with heap:=h',toks:=t' }:=by
 obtain⟨m,⟨o,es,a,f,r⟩,_⟩:=id I.loc;obtain⟨a,g⟩:=u.any f I.free 'd';exact I.step (g':=s.gens) (d':=s.drawn) (ch:=[]) (λ_ z=>nomatch z) (λb o _ a _ e n=>u.keep b o e n a 'd') (λb o _ a _ e n=>u.slot b o e n a 'd') (λb o _ e n=>u.free b o e n 'd') (λb o _ e=>u.there b o e 'd') u.tups u.frzs u.tbls (λa e=>by
  obtain⟨o',d,b,a,r'⟩:=e;rw[f] at a;cases a;exact{_,d,b,g,r'}) c I.bare
def Ad.call{g':Array GenState}{t':Nat}{d':Drawn}{ch:List Addr}(I:Ad X A0 Y H s)(u:Un (Ep X.stack) ch H H' s.heap h')(f:Bm X.prog X.w H' h')(i:AllBare g')(d:∀b∈ch,(b∈X.ex\/X.s₀.heap.objs.size<=b)/\b≠X.env.locals/\(∀x c,X.env.cells.lookup x=some c->c≠b)/\∀p∈X.pn++A0,p.1≠b) :
 Ad X A0 Y H' { s with heap:=h',gens:=g',drawn:=d',toks:=t' }:=by
 obtain⟨m,⟨o,es,a,g,r⟩,_⟩:=id I.loc;obtain⟨a,c⟩:=u.any g I.free λz=>(d _ z).2.1 rfl
 exact I.step (ch:=ch) d (λb o c h a e n=>u.keep b o e n (λz=>(AL.mp (I.stkSub b z)).elim c h) a) (λb o _ _ a e n=>u.any e n a) (λb o a e n=>u.free b o e n a) (λb o a e=>u.there b o e a) u.tups u.frzs u.tbls (λa e=>by
  obtain⟨o',d,b,a,r'⟩:=e;rw[g] at a;cases a;exact{_,d,b,c,r'}) f i
def Ad.turned{t':Nat}{a:Addr}(I:Ad X A0 Y H s)(k:∀b o,b≠a->s.heap.get? b=some o->h'.get? b=some o)(d:H a=none)(g:a≠X.env.locals)(j:a∈X.ex\/X.s₀.heap.objs.size<=a)(h:∀x c,X.env.cells.lookup x=some c->c≠a)(l:∀p∈X.pn++A0,p.1≠a):Ad X A0 Y H { s with heap:=h',toks:=t' }:=by
 have f:∀b u,H b=some u->b≠a:=λb u e z=>by rw[z,d] at e;cases e
 refine I.step (g':=s.gens) (d':=s.drawn) (ch:=[a]) (λb i=>?_) (λb o _ _ d e _=>k b o (λz=>d (by simp[z])) e) (λb o _ _ d e _=>{o.slots,k b o (λz=>d (by simp[z])) e}) (λ_ _ _ _ n=>n)
  (λb o d e=>{o,k b o (λz=>d (by simp[z])) e}) (λ_ _ e=>e) (λ_ _ _ e=>e) (λb m e=>{#[],by rw[e];simp}) (λm n=>?_) (λb u e=>?_) I.bare
 ·have e:b=a:=by simpa using i
  subst e;exact⟨j,g,h,l⟩
 ·obtain⟨o,es,i,a,r⟩:=n
  exact{o,es,i,k _ o (Ne.symm g) a,r}
 ·refine(I.hok b u e).stay (λc v d q=>k c v ?_ q) (λ_ q=>q) λ_ _ q=>q
  rcases d with z | z
  ·rw[z];exact f b u e
  ·exact f c _ z
def Ad.tok(I:Ad X A0 Y H s)(t:Nat):Ad X A0 Y H { s with toks:=t }:=I.un (h':=s.heap) (t':=t) Un.refl I.hok
def Ad.kept{t':Nat}(I:Ad X A0 Y H s)(k:∀b u,s.heap.get? b=some u->h'.get? b=some u):Ad X A0 Y H { s with heap:=h',toks:=t' }:=I.un (Un.kept k) (I.hok.kept k)
def Ad.laid{a:Addr}{o:HO}{t':Nat}(I:Ad X A0 Y H s)(k:∀b u,s.heap.get? b=some u->h'.get? b=some u)(c:s.heap.objs.size<=a)(b:Bx X.prog X.w (Af H a o) h' a o) :
 Ad X A0 Y (Af H a o) { s with heap:=h',toks:=t' }:=I.un (Un.laid k c (I.hok.fresh c)) (I.hok.laid k c b)
def Ad.write{t':Nat}(I:Ad X A0 Y H s)(d:Mut (H x))(c:e=x\/H e=some (.own x))(k:∀b u,b≠e->s.heap.get? b=some u->h'.get? b=some u)(a:∃u,h'.get? e=some u)(b:Bx X.prog X.w (Af H x o) h' x o):Ad X A0 Y (Af H x o) { s with heap:=h',toks:=t' }:=I.un (Un.write d c k a) (I.hok.write d c k a b)
def Ad.pins_of(I:Ad X A0 Y H s)(h:∀p∈pins',s.heap.get? p.1=some p.2/\H p.1=none/\p.1≠X.env.locals/\p.1∉X.fs/\∀v,p.2.data≠.cell v):Ad X pins' Y H s:=
 {I.ok,I.os,I.bare,I.base,I.loc,I.cell,I.free,I.freeC,λp a=>(Br.mp a).elim (λz=>I.pin p (Ei _ z)) (h p),I.hok,I.len}
def iN{N:List Str}(d:N.Nodup){i j:Nat}{x:Str}(a:N[i]?=some x)(b:N[j]?=some x):i=j:=by
 obtain⟨e,c⟩:=Bd.mp a;obtain⟨f,e⟩:=Bd.mp b;exact(List.getElem_inj d).mp (c.trans e.symm)
def iO{M:Model}{A:Around}{E:Value->Shared->Prop}{i:Nat}{x:Str}{v:V}{u:Value}{Q:Unit->Shared->Prop}(I:Ad X A0 Y H s)(hN:X.N.Nodup)(O:X.N[i]?=some x)(B:Loc X.env.scope x)(r:An v u)(h:∀s',Ad X A0 (Y.set i (some v)) H s'->(∃a,Heap.SameBut a s.heap s'.heap/\(a=X.env.locals\/X.env.cells.lookup x=some a))->Q () s')(L:autoParam (X.fn x=true\/X.env.scope.names.lookup x=some .local) z0a._auto_1):wpAny M A (storeName X.env x u) Q E s:=by
 obtain⟨m,T,Z⟩:=id I.loc;have d:(X.env.scope.kind == .class||(X.env.scope.kind == .module&&X.env.locals != X.env.globals))=false:=by rw[I.ok.kind];rfl
 have C:i<Y.length:=by rw[I.len];exact(Bd.mp O).1
 have F:=I.cne;have g:∀{a:Addr} {h':Heap},(∃o,s.heap.get? a=some o/\H a=none)->Heap.SameBut a s.heap h'->Bm X.prog X.w H h':=λ{a h'} c f b j e=>by
  obtain⟨_,_,a⟩:=c;refine(I.hok b j e).stay (λc w' l q=>(f.2 c ?_).trans q) (λ_ q=>q) λ_ _ q=>q
  rintro rfl;rcases l with rfl | l
  ·rw[a] at e;cases e
  ·rw[a] at l;cases l
 rcases B with A | A
 ·refine wpAny_storeName_local A T (λh' p f=>?_) d
  obtain⟨G,_,_,z,_⟩:=id T;refine h _ {I.ok,I.os,I.bare,{λb o e n E B=>?_,λb o e n E B=>?_,I.base.free,λb o e B=>?_,I.base.tups,I.base.frzs,I.base.tbls},{_,p,λj y v' a v U=>?_},λy c e=>?_,I.free,I.freeC,λp R=>?_,g ⟨G,z,I.free⟩ f,by simpa using I.len} {_,f,.inl rfl}
  ·exact(f.2 b (Bf (A3 (Heap.lt_size e) I.ok.above))).trans (I.base.keep b o e n E B)
  ·obtain⟨Q,a⟩:=I.base.slot b o e n E B
   exact{Q,(f.2 b (Bf (A3 (Heap.lt_size e) I.ok.above))).trans a}
  ·obtain⟨o',a⟩:=I.base.there b o e B
   exact{o',(f.2 b (Bf (A3 (Heap.lt_size e) I.ok.above))).trans a}
  ·by_cases G:j=i
   ·subst G
    rw[O] at a;cases a;rw[GS C] at v;cases v;exact{u,r,.inl {A,'d'}}
   ·rw[Dy (Ne.symm G)] at v
    obtain⟨u',r',q⟩:=Z j y v' a v U;refine{u',r',?_};rcases q with⟨k,e⟩ | ⟨k,c,e,z⟩
    ·refine .inl {k,?_}
     have:y≠x:=λe=>G (iN hN a (e▸O))
     simp[this,e]
    ·exact .inr {k,c,e,z.sameBut f (F y c e)}
  ·obtain⟨w',z⟩:=I.cell y c e
   exact{w',z.sameBut f (F y c e)}
  ·obtain⟨e,n,P,nf,d⟩:=I.pin p R
   exact{(f.2 p.1 P).trans e,n,P,nf,d}
 ·have J:X.fn x=true:=by
   rcases L with z | z
   ·exact z
   ·rw[z] at A;cases A
  obtain⟨c,l⟩:=I.ok.has x (.inl A);obtain⟨w',z⟩:=I.cell x c l;refine wpAny_storeName_cell I.ok.kind A l z (λh' N f=>?_);obtain⟨W,L,M⟩:=id z;refine h { s with heap:=h' } {I.ok,I.os,I.bare,{λb o e n E B=>?_,λb o e n E B=>?_,I.base.free,λb o e B=>?_,I.base.tups,I.base.frzs,I.base.tbls},{m,T.sameBut f (Ne.symm (F x c l)),λj y v' a v U=>?_},λy h e=>?_,I.free,I.freeC,λp R=>?_,g {W,L,I.freeC x c l} f,by simpa using I.len} {c,f,.inr l}
  ·exact(f.2 b (Bf (A3 (Heap.lt_size e) (I.ok.cab x c J l)))).trans (I.base.keep b o e n E B)
  ·obtain⟨Q,a⟩:=I.base.slot b o e n E B
   exact{Q,(f.2 b (Bf (A3 (Heap.lt_size e) (I.ok.cab x c J l)))).trans a}
  ·obtain⟨o',a⟩:=I.base.there b o e B
   exact{o',(f.2 b (Bf (A3 (Heap.lt_size e) (I.ok.cab x c J l)))).trans a}
  ·by_cases G:j=i
   ·subst G
    rw[O] at a;cases a;rw[GS C] at v;cases v;exact{u,r,.inr {.inl A,c,l,N}}
   ·rw[Dy (Ne.symm G)] at v
    obtain⟨u',r',q⟩:=Z j y v' a v U;refine{u',r',?_};rcases q with q | ⟨k,h,e,z'⟩
    ·exact .inl q
    ·refine .inr {k,h,e,z'.sameBut f ?_}
     rintro rfl;exact G (iN hN a (I.ok.inj _ _ _ e l▸O))
  ·by_cases a:h=c
   ·subst a;exact{_,N}
   ·obtain⟨c,b⟩:=I.cell y h e
    exact{c,b.sameBut f a}
  ·obtain⟨e,n,P,nf,d⟩:=I.pin p R
   refine{(f.2 p.1 ?_).trans e,n,P,nf,d};intro q;rw[q,L] at e;have a:W=p.2:=Option.some.inj e;exact d w' (by rw[<-a];exact M)
def cf{M:Model}{A:Around}{E:Value->Shared->Prop}{i:Nat}{x:Str}{v:V}{u:Value}{Q:Unit->Shared->Prop}(I:Ad X A0 Y H s)(e:X.N.Nodup)(b:X.N[i]?=some x)(c:Loc X.env.scope x)(r:An v u)(h:∀s',Ad X A0 (Y.set i (some v)) H s'->Q () s')(a:autoParam (X.fn x=true\/X.env.scope.names.lookup x=some .local) z0a._auto_1):wpAny M A (storeName X.env x u) Q E s:=
 iO I e b c r (λs' d _=>h s' d) a
def Ad.call'(I:Ad X A0 Y H s)(f:s'.os=s.os)(u:Un (Ep X.stack) ch H H' s.heap s'.heap)(a:Bm X.prog X.w H' s'.heap)(g:AllBare s'.gens)(d:∀b∈ch,(b∈X.ex\/X.s₀.heap.objs.size<=b)/\b≠X.env.locals/\(∀x c,X.env.cells.lookup x=some c->c≠b)/\∀p∈X.pn++A0,p.1≠b):Ad X A0 Y H' s':=by
 obtain⟨h',g',d',t',o'⟩:=s';have e:o'=s.os:=f;subst e;exact I.call (g':=g') (t':=t') (d':=d') u a g d
end
abbrev XK:=Value->Option Addr->Hp->Prop
abbrev St:=List (Option V)
abbrev VK:=V->Hp->Prop
abbrev TE:=St->Hp->VK->Prop
abbrev TT:=St->Hp->(Bool->Hp->Prop)->Prop
abbrev TA:=St->Hp->(List V->Hp->Prop)->Prop
structure Dm where
 nx:St->Hp->Prop
 rt:VK
 bk:St->Hp->Prop:=λ_ _=>False
 ct:St->Hp->Prop:=λ_ _=>False
abbrev TS:=Dm->St->Hp->Prop
instance EP(X:Cx)(A0:List 'p')(Y:St)(Q:VK)(u:Value)(s':Shared):Prop:=∃v H',Ad X A0 Y H' s'/\An v u/\Q v H'
instance TP(X:Cx)(A0:List 'p')(Y:St)(Q:Bool->Hp->Prop)(b:Bool)(s':Shared):Prop:=∃H',Ad X A0 Y H' s'/\Q b H'
instance AP(X:Cx)(A0:List 'p')(Y:St)(Q:List V->Hp->Prop)(us:List Value)(s':Shared):Prop:=∃vs H',Ad X A0 Y H' s'/\Ao vs us/\Q vs H'
open H in
instance SP(X:Cx)(A0:List 'p')(D:Dm)(f:Flow)(s':Shared):Prop:=
 match f with
 | .next=>∃Y' H',Ad X A0 Y' H' s'/\D.nx Y' H'
 | .brk=>∃Y' H',Ad X A0 Y' H' s'/\D.bk Y' H'
 | .cont=>∃Y' H',Ad X A0 Y' H' s'/\D.ct Y' H'
 | .ret u=>∃v Y' H',Ad X A0 Y' H' s'/\An v u/\D.rt v H'
instance PE(X:Cx)(e:Expr)(t:TE):Prop:=
 ∀(A0:List 'p') (s:Shared) (Y:St) (H:Hp) (Q:VK),Ad X A0 Y H s->t Y H Q->wpAny 'e' X.A (eval e X.env) (EP X A0 Y Q) X.xe s
instance PT(X:Cx)(e:Expr)(t:TT):Prop:=
 ∀(A0:List 'p') (s:Shared) (Y:St) (H:Hp) (Q:Bool->Hp->Prop),Ad X A0 Y H s->t Y H Q->wpAny 'e' X.A (isTrue e X.env (eval e X.env)) (TP X A0 Y Q) X.xe s
instance PW(X:Cx)(e:Expr)(t:TT):Prop:=
 ∀(whole:Sem Value) (A0:List 'p') (s:Shared) (Y:St) (H:Hp) (Q:Bool->Hp->Prop),Ad X A0 Y H s->t Y H Q->wpAny 'e' X.A (isTrue e X.env whole) (TP X A0 Y Q) X.xe s
def PW.pt{X:Cx}{e:Expr}{t:TT}(h:PW X e t):PT X e t:=h _
instance PA(X:Cx)(es:List Expr)(t:TA):Prop:=
 ∀(pos:Pos) (A0:List 'p') (s:Shared) (Y:St) (H:Hp) (Q:List V->Hp->Prop),Ad X A0 Y H s->t Y H Q->wpAny 'e' X.A (spliced (backTo pos (starEach es X.env))) (AP X A0 Y Q) X.xe s
instance PS(X:Cx)(st:Stmt)(t:TS):Prop:=
 ∀(A0:List 'p') (s:Shared) (Y:St) (H:Hp) (D:Dm),Ad X A0 Y H s->t D Y H->wpAny 'e' X.A (exec st X.env) (SP X A0 D) X.xe s
def Cm(X:Cx)(st:List Stmt)(t:TS):Prop:=
 ∀(A0:List 'p') (s:Shared) (Y:St) (H:Hp) (D:Dm),Ad X A0 Y H s->t D Y H->wpAny 'e' X.A (execs st X.env) (SP X A0 D) X.xe s
def ag{α:Type}{t:Sem α}{Q b:α->Shared->Prop}{M:Model}{A:Around}{E:Value->Shared->Prop}{s:Shared}(h:wpAny M A t Q E s)(c:∀a s,Q a s->b a s):wpAny M A t b E s:=Di h c λ_ _ x=>x
section
variable{X:Cx}
def BA(i:Nat):TE:=λY H Q=>∃v,Y[i]?=some (some v)/\Q v H
instance tC(v:V):TE:=λ_ H Q=>Q v H
def nJ{i:Nat}{x:Str}(c:X.N[i]?=some x)(b:Vis X.env.scope x)(d:autoParam 'u' uD)(f:autoParam ((x == ("__classdict__" : Str))=false) uD):PE X (.Name x pos) (BA i):=by
 intro j s Y H Q I h;obtain⟨v,e,h⟩:=h;obtain⟨m,g,a⟩:=I.loc;obtain⟨u,r,l⟩:=a i x v c e b;have fin:EP X j Y Q u s:=⟨v,H,I,r,h⟩;rcases l with⟨b,i⟩ | ⟨b,c,e,a⟩
 ·exact wpAny_Name (wpAny_loadName_local I.ok.kind b g i fin) d
 ·rcases b with b | b
  ·exact wpAny_Name (wpAny_loadName_cell I.ok.kind b e a fin) d
  ·exact wpAny_Name (wpAny_loadName_free I.ok.kind b e a fin f) d
def bd{i j pos}:PE X (.Constant (.int i) j pos) (tC (.int i)):=λ_ _ _ H _ I h=>wpAny_Constant_int {.int i,H,I.tok _,{_,rfl},h}
def nK{b j pos}:PE X (.Constant (.bool b) j pos) (tC (.bl b)):=λ_ _ _ H _ I h=>Constant_bool {.bl b,H,I,rfl,h}
def nL{j pos}:PE X (.Constant .none j pos) (tC .non):=λ_ _ _ H _ I h=>Constant_none {.non,H,I,rfl,h}
def bR{x j pos}:PE X (.Constant (.str x) j pos) (tC (.str x)):=λ_ _ _ H _ I h=>Calls.Constant_str {.str x,H,I.tok _,{_,rfl},h}
instance Gl(X:Cx)(x:Str):Prop:=X.env.kindOf x=some .globalImplicit
def iP{E:Value->Shared->Prop}{a:List 'p'}{s:Shared}{Y:St}{H:Hp}{x:Str}{u:Value}{pos:Pos}{Q:Value->Shared->Prop}(I:Ad X a Y H s)(c:Gl X x)(b:X.mg x=some u)(h:Q u s)(a:autoParam 'u' uD):wpAny 'e' X.A (eval (.Name x pos) X.env) Q E s:=
 Calls.Name_function_global I.ok.kind c (Calls.loadGlobal_global (by rw[I.ok.glob];exact I.mod.glob.keeps I.bk) b h) a
def cY{E:Value->Shared->Prop}{a:List 'p'}{s:Shared}{Y:St}{H:Hp}{x:Str}{u:Value}{pos:Pos}{Q:Value->Shared->Prop}(I:Ad X a Y H s)(c:Gl X x)(f:X.mg x=none)(g:bootBuiltins x=some u)(h:Q u s)(e:autoParam (x≠"__name__") uD)(a:autoParam 'u' uD):wpAny 'e' X.A (eval (.Name x pos) X.env) Q E s:=by
 obtain⟨i,d,b⟩:=I.mod.blt;exact Calls.Name_function_global I.ok.kind c (Calls.loadGlobal_builtin (by rw[I.ok.glob];exact I.mod.glob.keeps I.bk) f (by rw[I.ok.blt];exact d.keeps I.bk) ((b x e).trans g) h) a
def fO{x:Str}(b:Gl X x)(c:X.mg x=some u)(r:An v u)(a:autoParam 'u' uD):PE X (.Name x pos) (tC v):=
 λ_ _ _ H _ I h=>iP I b c ⟨v,H,I,r,h⟩ a
variable{a b:Expr}{ta tb:TE}{pos:Pos}
instance PC(X:Cx)(op:CmpOp)(a b:Expr)(t:TE):Prop:=
 ∀(A0:List 'p') (s:Shared) (Y:St) (H:Hp) (Q:VK),Ad X A0 Y H s->t Y H Q->
  wpAny 'e' X.A (eval a X.env) (λv s₁=>wpAny 'e' X.A (eval b X.env) (λu s₂=>wpAny 'e' X.A (compareOp op v u) (EP X A0 Y Q) X.xe s₂) X.xe s₁) X.xe s
instance tB(t:TE):TT:=λY H Q=>t Y H λx H1=>∃c,x=.bl c/\Q c H1
def nM(h:PC X c a b t)(d:autoParam (behindInMarks c b=false) z0b._auto_1):PE X (.Compare a [c] [b] pos) t:=λe s Y H Q I c=>wpAny_Compare1 (h e s Y H Q I c) d
def iQ{c:CmpOp}{t:TE}(h:PC X c a b t)(d:autoParam (behindInMarks c b=false) z0b._auto_1):PT X (.Compare a [c] [b] pos) (tB t):=by
 intro c s Y H Q I e;refine wpAny_isTrue_Compare1 (ag (h c s Y H _ I e) λv c d=>ag d λu f e=>ag e λc g hI59=>?_) d;obtain⟨x,H1,I1,r1,q1⟩:=hI59;obtain⟨d,rfl,q⟩:=q1;cases r1;exact Ee ⟨H1,I1,q⟩
def nN{e:Expr}{t:TE}(h:PE X e t)(f:autoParam (∀c,isTrue e X.env c=(do let v <-c;standAt e.pos;holding [v] (truthy v))) z0c._auto_1):PT X e (tB t):=by
 intro c s Y H Q I d;refine isTrue_plain (ag (h c s Y H _ I d) λv c hI60=>?_) (f _);obtain⟨x,H1,I1,r1,q1⟩:=hI60;obtain⟨d,rfl,q⟩:=q1;cases r1;exact Ee ⟨H1,I1,q⟩
variable{tA tB':TT}{rest:List Expr}
def JQ(t u:TT):TT:=λY H Q=>t Y H λc H1=>if c=true then u Y H1 Q else Q false H1
instance tOr(t u:TT):TT:=λY H Q=>t Y H λc H1=>if c=true then Q true H1 else u Y H1 Q
def JR(t:TT):TT:=λY H Q=>t Y H λc H1=>Q (!c) H1
def pw_and1(c:PT X a tA):PW X (.BoolOp .And [a] pos) tA:=by
 intro e d s Y H Q I h;refine isTrue_and (ag (c d s Y H Q I h) λc d e=>?_);cases c with
 | true=>exact isTrue_and_nil e
 | false=>exact e
def pw_or1(c:PT X a tA):PW X (.BoolOp .Or [a] pos) tA:=by
 intro e d s Y H Q I h;refine isTrue_or (ag (c d s Y H Q I h) λc d e=>?_);cases c with
 | false=>exact isTrue_or_nil e
 | true=>exact e
def pw_and(c:PT X a tA)(g:PW X (.BoolOp .And (b::rest) pos) tB'):PW X (.BoolOp .And (a::b::rest) pos) (JQ tA tB'):=by
 intro e d s Y H Q I h;refine isTrue_and (ag (c d s Y H _ I h) λc f hI61=>?_);obtain⟨H1,I1,q1⟩:=hI61;cases c with
 | true=>exact g e d f Y H1 Q I1 q1
 | false=>exact⟨H1,I1,q1⟩
def pw_or(c:PT X a tA)(g:PW X (.BoolOp .Or (b::rest) pos) tB'):PW X (.BoolOp .Or (a::b::rest) pos) (tOr tA tB'):=by
 intro e d s Y H Q I h;refine isTrue_or (ag (c d s Y H _ I h) λc f hI62=>?_);obtain⟨H1,I1,q1⟩:=hI62;cases c with
 | true=>exact⟨H1,I1,q1⟩
 | false=>exact g e d f Y H1 Q I1 q1
def nO(d:PT X a tA):PT X (.UnaryOp .Not a pos) (JR tA):=by
 intro e s Y H Q I h;exact isTrue_not (d e s Y H (λc H1=>Q (!c) H1) I h)
def JS(ta tb:TE):TE:=λY H Q=>ta Y H λx H1=>∃c,x=.bl c/\if c=true then tb Y H1 Q else Q (.bl false) H1
def nP{op}(h:PE X a t):PE X (.BoolOp op [a] pos) t:=λd s Y H Q I c=>BoolOp_one (h d s Y H Q I c)
def nQ(c:PE X a ta)(e:PE X (.BoolOp .And (b::rest) pos) tb):PE X (.BoolOp .And (a::b::rest) pos) (JS ta tb):=by
 intro d s Y H Q I h;refine BoolOp_and (ag (c d s Y H _ I h) λv f hI63=>?_);obtain⟨x,H1,I1,r1,q1⟩:=hI63;obtain⟨c,rfl,q1⟩:=q1;cases r1;refine Ee ?_;cases c with
 | true=>exact e d f Y H1 Q I1 q1
 | false=>exact{.bl false,H1,I1,rfl,q1}
instance tIf(t:TT)(ta tb:TE):TE:=λY H Q=>t Y H λc H1=>if c=true then ta Y H1 Q else tb Y H1 Q
def nR{c:Expr}(d:PT X c tA)(f:PE X a ta)(g:PE X b tb):PE X (.IfExp c a b pos) (tIf tA ta tb):=by
 intro c s Y H Q I h;refine wpAny_IfExp (ag (d c s Y H _ I h) λd e hI64=>?_);obtain⟨H1,I1,q1⟩:=hI64;cases d with
 | true=>exact f c e Y H1 Q I1 q1
 | false=>exact g c e Y H1 Q I1 q1
end
def AT(K:FG)(H:Hp)(a:Addr)(xs:List V):Prop:=
 Rd H a (.lst xs)\/
  ∃(o:Obj) (its:Array Value) (n:Nat),K.lookup a=some o/\o.cls=.type "list"/\o.dict=none/\o.data=.seq its n/\its.size<=sizeLine/\Ao xs its.toList
def AN(K:FG)(H:Hp)(a:Addr)(xs:List V):Prop:=
 Rd H a (.tup xs)\/
  ∃(o:Obj) (its:Array Value) (n:Nat),K.lookup a=some o/\o.cls=.type "tuple"/\o.data=.seq its n/\its.size<=sizeLine/\Ao xs its.toList
def JT:Value->Option V
 | .none=>some .non
 | .bool b=>some (.bl b)
 | .int i _=>some (.int i)
 | .str x _=>some (.str x)
 | .bytes b _=>some (.byt b)
 | .float b _=>some (.flt b)
 | .ref a=>some (.ref a)
 | .type n=>some (.ty n)
 | _=>none
theorem An.abs(r:An x u):JT u=some x:=by
 cases x with
 | non=>cases r;rfl
 | bl _=>cases r;rfl
 | int _=>obtain⟨t,rfl⟩:=r;rfl
 | str _=>obtain⟨t,rfl⟩:=r;rfl
 | byt _=>obtain⟨t,rfl⟩:=r;rfl
 | flt _=>obtain⟨t,rfl⟩:=r;rfl
 | ref _=>cases r;rfl
 | ty _=>cases r;rfl
def An.inj(r:An x u)(q:An y u):x=y:=Option.some.inj (r.abs.symm.trans q.abs)
theorem Ao.inj:∀{c b:List V} {a:List Value},Ao c a->Ao b a->c=b
 | _,_,_,.nil,.nil=>rfl
 | _,_,_,.cons r t,.cons r' d=>by rw[r.inj r',Ao.inj t d]
def AT.of{K:FG}(h:H a=some (.lst b)):AT K H a b:=.inl (.inl h)
def AN.of{K:FG}(h:H a=some (.tup b)):AN K H a b:=.inl (.inl h)
def Ad.list(I:Ad X A0 Y H s)(h:AT X.K H a c):∃b:List Value,Ao c b/\PlainL s.heap a b.toArray/\c.length<=sizeLine:=by
 rcases h with h | ⟨o,b,n,f,i,d,g,e,r⟩
 ·obtain⟨z,b,n,r,e⟩:=h.ok I.hok
  exact{b,r,{_,n,e,rfl,rfl,rfl},z}
 ·refine{b.toList,r,{o,n,I.kIn a o f,i,d,by simpa using g},?_}
  have e:=r.length;simp only[Dz] at e;omega
def Ad.tuple(I:Ad X A0 Y H s)(h:AN X.K H a c):∃b:List Value,Ao c b/\IsTup s.heap a b.toArray/\c.length<=sizeLine:=by
 rcases h with h | ⟨o,b,n,d,e,f,g,r⟩
 ·obtain⟨z,b,r,p,_⟩:=h.ok I.hok
  exact⟨b,r,p,z⟩
 ·refine{b.toList,r,{o,I.kIn a o d,e,n,by simpa using f},?_}
  have e:=r.length;simp only[Dz] at e;omega
def Ad.list_inj(I:Ad X A0 Y H s)(h:AT X.K H a g)(c:AT X.K H a f):g=f:=by
 obtain⟨b,r,⟨o,n,e,_,_,d⟩,_⟩:=I.list h;obtain⟨a,r',⟨o',i,e',_,_,d'⟩,_⟩:=I.list c;rw[e] at e';cases e';rw[d] at d';injection d' with d1 _
 have:b=a:=by simpa using congrArg Array.toList d1
 subst this;exact r.inj r'
def Ad.tuple_inj(I:Ad X A0 Y H s)(h:AN X.K H a g)(c:AN X.K H a f):g=f:=by
 obtain⟨b,r,⟨o,e,_,n,d⟩,_⟩:=I.tuple h;obtain⟨a,r',⟨o',e',_,h,d'⟩,_⟩:=I.tuple c;rw[e] at e';cases e';rw[d] at d';injection d' with d1 _
 have:b=a:=by simpa using congrArg Array.toList d1
 subst this;exact r.inj r'
abbrev Cx.wish(X:Cx)(E:Value->Shared->Prop):Cx:={ X with xe:=E }
abbrev Cx.nox(X:Cx):Cx:=X.wish λ_ _=>False
def Cx.Ok.wish{X:Cx}(a:X.Ok)(E:Value->Shared->Prop):(X.wish E).Ok:=
 ⟨a.mod,a.kind,a.glob,a.blt,a.above,a.inj,a.has,a.cab,a.hd,a.frames,a.stk,a.exf,a.bs,a.bsz,a.noex,a.exfs,a.funs,a.frf⟩
def Cx.Ok.unwish{X:Cx}{E:Value->Shared->Prop}(a:(X.wish E).Ok):X.Ok:=
 ⟨a.mod,a.kind,a.glob,a.blt,a.above,a.inj,a.has,a.cab,a.hd,a.frames,a.stk,a.exf,a.bs,a.bsz,a.noex,a.exfs,a.funs,a.frf⟩
def Ad.wish(I:Ad X A0 Y H s)(E:Value->Shared->Prop):Ad (X.wish E) A0 Y H s:={I.ok.wish E,I.os,I.bare,I.base,I.loc,I.cell,I.free,I.freeC,I.pin,I.hok,I.len}
def Ad.unwish(I:Ad (X.wish E) A0 Y H s):Ad X A0 Y H s:=⟨I.ok.unwish,I.os,I.bare,I.base,I.loc,I.cell,I.free,I.freeC,I.pin,I.hok,I.len⟩
open H in
theorem SP.unwish(h:SP (X.wish E) A0 D f s'):SP X A0 D f s':=by
 cases f with
 | next=>obtain⟨a,b,I,q⟩:=h;exact⟨a,b,I.unwish,q⟩
 | brk=>obtain⟨a,b,I,q⟩:=h;exact⟨a,b,I.unwish,q⟩
 | cont=>obtain⟨a,b,I,q⟩:=h;exact⟨a,b,I.unwish,q⟩
 | ret u=>obtain⟨v,a,b,I,r,q⟩:=h;exact⟨v,a,b,I.unwish,r,q⟩
def Cm.nox{a:List Stmt}{t:TS}(h:Cm X.nox a t):Cm X a t:=λc s Y H D I b=>
 Di (h c s Y H D (I.wish _) b) (λ_ _ q=>q.unwish) λ_ _ z=>False.elim z
section
variable{X:Cx}{st:Stmt}{rest:List Stmt}{t u:TS}{e:Expr}{te:TE}{pos:Pos}
def JU:TS:=λD Y H=>D.nx Y H
def JV(t u:TS):TS:=λD Y H=>t { D with nx:=u D } Y H
def fQ:Cm X [] JU:=λ_ _ Y H _ I h=>wpAny_execs_nil ⟨Y,H,I,h⟩
open H in
def bA(b:PS X st t)(c:Cm X rest u):Cm X (st::rest) (JV t u):=by
 intro a s Y H D I h;refine wpAny_execs_cons (ag (b a s Y H { D with nx:=u D } I h) λf g q=>?_);cases f with
 | next=>
   obtain⟨b,f,d,q⟩:=q;exact c a g b f D d q
 | ret v=>exact q
 | brk=>exact q
 | cont=>exact q
open H in
def dG(a:PS X st t):Cm X [st] t:=by
 intro b s Y H D I h;refine wpAny_execs_cons (ag (a b s Y H D I h) λf a q=>?_);cases f with
 | next=>exact wpAny_execs_nil q
 | ret v=>exact q
 | brk=>exact q
 | cont=>exact q
def Ad.quiet{a:List 'p'}{Y:St}{H:Hp}{s:Shared}(I:Ad X a Y H s):interactive X.env=false:=by simp[interactive,I.ok.kind]
def JW(te:TE):TS:=λD Y H=>te Y H λ_ H1=>D.nx Y H1
def ey(a:PE X e te)(b:autoParam (swapsWith e none pos.line X.env=pure false) uR):PS X (.Expr e pos) (JW te):=by
 intro c s Y H D I h;exact wpAny_Expr_any (ag (a c s Y H _ I h) λv a ⟨x,H1,I1,r1,q1⟩=>⟨Y,H1,I1,q1⟩) I.quiet b
def JX(te:TE):TS:=λD Y H=>te Y H D.rt
def dH(a:PE X e te):PS X (.Return (some e) pos) (JX te):=by
 intro b s Y H D I h;exact wpAny_Return_some (ag (a b s Y H _ I h) λv a ⟨x,H1,I1,r1,q1⟩=>⟨x,Y,H1,I1,r1,q1⟩)
def JY(c:TT)(t u:TS):TS:=λD Y H=>c Y H λb H1=>if b=true then t D Y H1 else u D Y H1
def fR{c:Expr}{a b:List Stmt}{d:TT}(i:PT X c d)(g:Cm X a t)(f:Cm X b u):PS X (.If c a b pos) (JY d t u):=by
 intro a s Y H D I h;refine wpAny_If (ag (i a s Y H _ I h) λd b hI65=>?_);obtain⟨H1,I1,q1⟩:=hI65;cases d with
 | true=>exact g a b Y H1 D I1 q1
 | false=>exact f a b Y H1 D I1 q1
end
abbrev TG:=V->St->Hp->(St->Hp->Prop)->Prop
abbrev TGs:=List V->St->Hp->(St->Hp->Prop)->Prop
instance PG(X:Cx)(target:Expr)(t:TG):Prop:=
 ∀(A0:List 'p') (s:Shared) (Y:St) (H:Hp) (v:V) (u:Value) (Q:St->Hp->Prop),Ad X A0 Y H s->An v u->t v Y H Q->
  wpAny 'e' X.A (assign target X.env u) (λ_ s'=>∃Y' H',Ad X A0 Y' H' s'/\Q Y' H') X.xe s
instance PGs(X:Cx)(ts:List Expr)(t:TGs):Prop:=
 ∀(A0:List 'p') (s:Shared) (Y:St) (H:Hp) (vs:List V) (us:List Value) (Q:St->Hp->Prop),Ad X A0 Y H s->Ao vs us->t vs Y H Q->
  wpAny 'e' X.A (assignInOrder ((assignEach ts X.env).map (·.2)) us) (λ_ s'=>∃Y' H',Ad X A0 Y' H' s'/\Q Y' H') X.xe s
abbrev HE:=V->V->V->Hp->(Hp->Prop)->Prop
def IZ(X:Cx)(t:HE):Prop:=
 ∀(A0:List 'p') (s:Shared) (Y:St) (H:Hp) (o i v:V) (ov iv u:Value) (Q:Hp->Prop),Ad X A0 Y H s->An o ov->An i iv->An v u->t o i v H Q->
  wpAny 'e' X.A (setItem ov iv u) (λ_ s'=>∃H',Ad X A0 Y H' s'/\Q H') X.xe s
abbrev TIp:=V->V->Hp->VK->Prop
instance PIp(X:Cx)(op:Operator)(t:TIp):Prop:=
 ∀(A0:List 'p') (s:Shared) (Y:St) (H:Hp) (x y:V) (v u:Value) (Q:VK),Ad X A0 Y H s->An x v->An y u->t x y H Q->
  wpAny 'e' X.A (inplaceOp op v u) (EP X A0 Y Q) X.xe s
def FO(i:Nat):TG:=λv Y H Q=>Q (Y.set i (some v)) H
def eA{i:Nat}{x:Str}(e:X.N.Nodup)(b:X.N[i]?=some x)(c:Loc X.env.scope x)(a:autoParam (X.fn x=true\/X.env.scope.names.lookup x=some .local) z0a._auto_1):PG X (.Name x pos) (FO i):=by
 intro d s Y H v u Q I r h;exact wpAny_assign_Name (cf I e b c r (λs' d=>{_,H,d,h}) a)
def I0:TGs:=λvs Y H Q=>vs=[]/\Q Y H
def HF(t:TG)(u:TGs):TGs:=λvs Y H Q=>∃v r,vs=v::r/\t v Y H λY' H'=>u r Y' H' Q
def fS:PGs X [] I0:=by
 intro c s Y H b a Q I r h;obtain⟨e,h⟩:=h;subst e;cases r;exact assignInOrder_nil ⟨Y,H,I,h⟩
def dI{e:Expr}{es:List Expr}{t:TG}{u:TGs}(f:PG X e t)(b:PGs X es u)(c:autoParam ((assignEach (e::es) X.env).map (·.2)=assign e X.env::(assignEach es X.env).map (·.2)) uR):PGs X (e::es) (HF t u):=by
 intro a s Y H e d Q I r h;obtain⟨v,vr,d,h⟩:=h;subst d;cases r with
 | cons r e=>
   rw[c];refine assignInOrder_cons (ag (f a s Y H _ _ _ I r h) λ_ c hI66=>?_);obtain⟨d,H1,I1,q1⟩:=hI66;exact b a c d H1 _ _ Q I1 e q1
def Ja(K:FG)(n:Nat)(t:TGs):TG:=λv Y H Q=>∃a xs,v=.ref a/\AN K H a xs/\xs.length=n/\t xs Y H Q
def fT{k:Nat}{n:Nat}(o:X.calm=true)(h:PGs X es t)(i:autoParam ((assignEach es X.env).length=n) uR)(b:autoParam ((assignEach es X.env).findIdx? (·.1)=none) uR):PG X (.Tuple es k pos) (Ja X.K n t):=by
 intro d s Y H v u Q I r c;obtain⟨a,f,j,l,e,c⟩:=c;subst j;cases r;obtain⟨m,a,g,n⟩:=I.tuple l;refine assign_Tuple_tuple (I.ok.hd o) g (by simp[i,<-e,a.length]) b λi g=>?_
 have I1:Ad X d Y H { s with heap:=i }:=I.kept (t':=s.toks) λb o e=>g b o (Bf (Heap.lt_size e)) e
 exact h d _ Y H f _ Q I1 (by simpa using a) c
def EX(to ti:TE)(t:HE):TG:=λv Y H Q=>to Y H λo H1=>ti Y H1 λi H2=>t o i v H2 λH3=>Q Y H3
def nS{o i:Expr}{d ti:TE}{t:HE}(e:PE X o d)(g:PE X i ti)(f:IZ X t)(j:autoParam (∀v,assign (.Subscript o i pos) X.env v=(do
  let a <-holding [v] (eval o X.env)
  let b <-holding [v,a] (eval i X.env)
  standAt pos
  holding [v,a,b] (setItem a b v)
  release [v,a,b] [])) z0c._auto_1):PG X (.Subscript o i pos) (EX d ti t):=by
 intro c s Y H v u Q I r h;rw[j];refine Ac (wpAny_holding (ag (e c s Y H _ I h) λa d hI67=>?_));obtain⟨x,H1,I1,r1,q1⟩:=hI67;refine Ac (wpAny_holding (ag (g c d Y H1 _ I1 q1) λb d hI68=>?_));obtain⟨y,H2,I2,r2,q2⟩:=hI68;refine Ac (wpAny_standAt (Ac (wpAny_holding (ag (f c d Y H2 x y v a b u _ I2 r1 r2 r q2) λ_ a hI69=>?_))));obtain⟨H3,I3,q3⟩:=hI69;exact wpAny_release ⟨Y,H3,I3,q3⟩
def Ft(te:TE)(g:TG):TS:=λD Y H=>te Y H λx H1=>g x Y H1 D.nx
def fU{a e:Expr}{b:TE}{g:TG}(j:PE X e b)(c:PG X a g)(i:autoParam (swapsWithSole [a] e pos.line X.env=pure false) uR)(f:autoParam (swappedStores [a] e X.env=pure none) uR)(d:autoParam ((assignEach [a] X.env).map (·.2)=[assign a X.env]) uR):PS X (.Assign [a] e pos) (Ft b g):=by
 intro a s Y H D I h;refine wpAny_Assign_stores (ag (j a s Y H _ I h) λv b hI70=>?_) i f;obtain⟨x,H1,I1,r1,q1⟩:=hI70;rw[d];exact ag (c a b Y H1 x v _ I1 r1 q1) λ_ a q=>q
def bB{i:Nat}{x:Str}{e:Expr}{b:TE}{a:Pos}(j:X.N.Nodup)(f:X.N[i]?=some x)(g:Loc X.env.scope x)(l:PE X e b)(d:autoParam (swapsWith e (some (.Name x a)) pos.line X.env=pure false) uR)(c:autoParam (X.fn x=true\/X.env.scope.names.lookup x=some .local) z0a._auto_1) :
 PS X (.Assign [.Name x a] e pos) (Ft b (FO i)):=by
 intro a s Y H D I h;refine wpAny_Assign_Name (ag (l a s Y H _ I h) λv a hI71=>?_) d;obtain⟨y,H1,I1,r1,q1⟩:=hI71;exact cf I1 j f g r1 (λa I2=>{_,H1,I2,q1}) c
def JZ(i j:Nat)(ta:TA):TS:=λD Y H=>ta Y H λvs H1=>∃v w,vs=[v,w]/\D.nx ((Y.set i (some v)).set j (some w)) H1
def nT{i j:Nat}{x y:Str}{a b:Expr}{f:TA}{c d e:Pos}{kt k2 pt2}(B:X.calm=true)(r:X.N.Nodup)(z:X.N[i]?=some x)(A:X.N[j]?=some y)(l:i≠j)(m:X.env.scope.names.lookup x=some .local)(n:X.env.scope.names.lookup y=some .local)(g:PA X [a,b] f)(u:swappedStores [.Tuple [.Name x c,.Name y d] kt e] (.Tuple [a,b] k2 pt2) X.env=pure (some [x,y]))(o:autoParam (swapsWithSole [.Tuple [.Name x c,.Name y d] kt e] (.Tuple [a,b] k2 pt2) pos.line X.env=pure false) uR) :
 PS X (.Assign [.Tuple [.Name x c,.Name y d] kt e] (.Tuple [a,b] k2 pt2) pos) (JZ i j f):=by
 intro e s Y H D I h;rw[exec_Assign_arm];refine Ac (wpAny_standAt ?_);rw[o];refine Ac (Aj ?_);rw[if_neg 'z'];refine Ac (Tuple_ (ag (g _ e s Y H _ I h) λf c hI72=>?_));obtain⟨a,H1,I1,r1,q1⟩:=hI72;obtain⟨v,w,h,q1⟩:=q1;subst h;obtain⟨a,d,rfl,i,g⟩:∃a d,f=[a,d]/\An v a/\An w d:=by
  cases r1 with
  | cons p q=>
    cases q with
    | cons p' f=>
      cases f;exact{_,_,rfl,p,p'}
 refine wpAny_newObj_type ?_ (by show 2<=sizeLine;decide);have I2:Ad X e Y H1 { c with heap:=c.heap.push { cls:=.type "tuple",data:=.seq [a,d].toArray } }:=I1.kept (t':=c.toks) λb o e=>AH _ e
 rw[u];refine Ac (Aj ?_);show wpAny 'e' X.A (do rule "assign.swapped-stores";let items <-unpackItems (.ref c.heap.objs.size) 2 none;assignInOrder [λv=>bindName X.env y v,λv=>bindName X.env x v] items.reverse;pure Flow.next) _ _ _;refine Ac (bc (Ac (unpackItems_tuple (items:=#[a,d]) (I.ok.hd B) (IsTup.new c.heap _) λh' f=>?_)));have I3:=I2.kept (h':=h') (t':=c.toks) λb o e=>f b o (Bf (Heap.lt_size e)) e
 show wpAny _ _ (assignInOrder [λv=>bindName X.env y v,λv=>bindName X.env x v] [d,a] >>= λ_=>pure Flow.next) _ _ _;refine Ac (assignInOrder_cons (wpAny_bindName (cf I3 r A (.inl n) g (λa I4=>?_) (.inr n))));refine assignInOrder_cons (wpAny_bindName (cf I4 r z (.inl m) i (λa I5=>assignInOrder_nil (Aj ?_)) (.inr m)));rw[List.set_comm _ _ (Ne.symm l)] at I5;exact{_,H1,I5,q1}
def J1(i:Nat)(te:TE)(ti:TIp):TS:=λD Y H=>∃x,Y[i]?=some (some x)/\te Y H λy H1=>ti x y H1 λz H2=>D.nx (Y.set i (some z)) H2
def nU{i:Nat}{x:Str}{e:Expr}{b:TE}{f:Operator}{ti:TIp}{a:Pos}(o:X.N.Nodup)(g:X.N[i]?=some x)(d:Loc X.env.scope x)(y:PE X e b)(n:PIp X f ti)(j:autoParam (X.fn x=true\/X.env.scope.names.lookup x=some .local) z0a._auto_1) :
 PS X (.AugAssign (.Name x a) f e pos) (J1 i b ti):=by
 intro c s Y H D I h;obtain⟨v,q,h⟩:=h;obtain⟨m,p,b⟩:=I.loc;have a:Vis X.env.scope x:=by rcases d with k | k;exact .inl k;exact .inr (.inl k)
 obtain⟨u,r,l⟩:=b i x v g q a;refine wpAny_AugAssign_Name ?_;have i:wpAny 'e' X.A (eval e X.env) (λw b=>wpAny 'e' X.A (inplaceOp f u w) (λr a=>wpAny 'e' X.A (storeName X.env x r) (λ_=>SP X c D .next) X.xe a) X.xe b) X.xe s:=by
  refine ag (y c s Y H _ I h) λw a hI73=>?_
  obtain⟨y,H1,I1,r1,q1⟩:=hI73;refine ag (n c a Y H1 v y u w _ I1 r r1 q1) λz a hI74=>?_
  obtain⟨b,H2,I2,r2,q2⟩:=hI74;exact cf I2 o g d r2 (λa I3=>{_,H2,I3,q2}) j
 rcases l with⟨a,f⟩ | ⟨a,c,e,b⟩
 ·exact wpAny_loadName_local I.ok.kind a p f i
 ·rcases a with a | a
  ·exact wpAny_loadName_cell I.ok.kind a e b i
  ·rcases d with k | k
   ·have:X.env.scope.names.lookup x=some .free:=a
    rw[k] at this;cases this
   ·have:X.env.scope.names.lookup x=some .free:=a
    rw[k] at this;cases this
instance ipI(f:Int->Int->Int):TIp:=λx y H Q=>∃i j,x=.int i/\y=.int j/\Q (.int (f i j)) H
def vY:PIp X .Add (ipI λi j=>i+j):=by
 intro a s Y H x y v u Q I r1 r2 h;obtain⟨i,j,b,a,q⟩:=h;subst b;subst a;obtain⟨t,rfl⟩:=r1;obtain⟨b,rfl⟩:=r2;exact iadd_int {.int _,H,I.tok _,{_,rfl},q}
def J3(c:TT)(tb:TS):TS:=λD Y H=>∃W:Nat->St->Hp->Prop,(∃m,W m Y H)/\∀m Y H,W m Y H->
 c Y H λb H1=>if b=true then ∃N:St->Hp->Prop,(∀Y' H',N Y' H'->∃m',m' < m/\W m' Y' H')/\tb { D with nx:=N,ct:=N,bk:=D.nx } Y H1 else D.nx Y H1
open H in
def nV{c:Expr}{a:List Stmt}{b:TT}{tb:TS}(e:PassesOwn 'e' X.A X.env X.xe)(g:PT X c b)(f:Cm X a tb):PS X (.While c a [] pos) (J3 b tb):=by
 intro d s Y H D I h;obtain⟨W,⟨i,j⟩,a⟩:=h;refine wpAny_While (codeAny_whileLoop (λn s'=>∃b c,Ad X d b c s'/\W n b c) ?_ i ⟨Y,H,I,j⟩);rintro n b ⟨c,H1,I1,h⟩;refine wpAny_passesOwn e (ag (g d b c H1 _ I1 (a n c H1 h)) λb a hI75=>?_);obtain⟨H2,I2,q2⟩:=hI75;cases b with
 | true=>
   obtain⟨N,g,q2⟩:=q2;rw[if_pos rfl];refine wpAny_passesOwn e (ag (f d a c H2 _ I2 q2) λf a q3=>?_);cases f with
   | next=>
     obtain⟨a,H3,I3,b⟩:=q3;obtain⟨e,f,d⟩:=g a H3 b;exact⟨e,f,a,H3,I3,d⟩
   | cont=>
     obtain⟨a,H3,I3,b⟩:=q3;obtain⟨e,f,d⟩:=g a H3 b;exact⟨e,f,a,H3,I3,d⟩
   | brk=>exact q3
   | ret v=>exact q3
 | false=>
   rw[if_neg BQ];exact wpAny_execs_nil ⟨c,H2,I2,q2⟩
structure It where
 go:Nat->Hp->Prop
 yld:Nat->Hp->V->Hp->Prop
 stop:Nat->Hp->Prop
def CS(X:Cx)(A0:List 'p')(H:Hp)(b:Addr):Prop:=
 H b=none/\b≠X.env.locals/\b∉X.fs/\(b∈X.ex\/X.s₀.heap.objs.size<=b)/\(∀x c,X.env.cells.lookup x=some c->c≠b)/\∀p∈X.pn++A0,p.1≠b
def Ad.fpOk{X:Cx}{d:List 'p'}{Y:St}{H c:Hp}{s:Shared}{b:Addr}(I:Ad X d Y H s)(a:s.heap.objs.size<=b)(e:c b=none):CS X d c b:=by
 refine{e,Nat.ne_of_gt (A3 I.lt a),I.nofs a,.inr (Aw I.sz a),λx c e z=>?_,λp b z=>?_}
 ·obtain⟨v,q⟩:=I.cell x c e
  exact absurd (A3 q.lt (by rw[z];exact a)) (CJ _)
 ·exact absurd (A3 (Heap.lt_size (I.pin p b).1) (by rw[z];exact a)) (CJ _)
structure Ev(P:Program)(w:World)(K:FG)(tg:Expr)(J:It)(fp:List Addr)(it:Addr)(tn:Nat->Heap->Prop):Prop where
 mem:it∈fp
 obj:∀i h,tn i h->∀b∈fp,∃o,h.get? b=some o/\∀v,o.data≠.cell v
 keep:∀i h h',tn i h->(∀b∈fp,∀o,h.get? b=some o->h'.get? b=some o)->tn i h'
 item:∀(X:Cx),X.prog=P->X.w=w->X.K=K->X.calm=true->∀(i:Nat) (A0:List 'p') (s:Shared) (Y:St) (H:Hp) (E:Value->Shared->Prop),Ad X A0 Y H s->(∀b∈fp,CS X A0 H b)->tn i s.heap->J.go i H->
  wpAny (model P w) X.A (pyNext (.ref it)) (λr s1=>∃u,r=some u/\
   wpAny (model P w) X.A (letOwnedTupleGo tg (.ref it) u) (λ_ s2=>∃x H',Ad X A0 Y H' s2/\An x u/\J.yld i H x H'/\tn (i+1) s2.heap/\∀b∈fp,H' b=none) E s1) E s
 done:∀(X:Cx),X.prog=P->X.w=w->X.K=K->X.calm=true->∀(i:Nat) (A0:List 'p') (s:Shared) (Y:St) (H:Hp) (E:Value->Shared->Prop),Ad X A0 Y H s->(∀b∈fp,CS X A0 H b)->tn i s.heap->J.stop i H->
  wpAny (model P w) X.A (pyNext (.ref it)) (λr s1=>r=none/\Ad X A0 Y H s1) E s
 self:∀(A:Around) (i:Nat) (s:Shared) (Q:Value->Shared->Prop) (E:Value->Shared->Prop),tn i s.heap->Q (.ref it) s->wpAny (model P w) A (pyIter (.ref it)) Q E s
abbrev TI:=St->Hp->(It->Hp->Prop)->Prop
instance PIE(X:Cx)(A0:List 'p')(Y:St)(tg:Expr)(R:It->Hp->Prop)(itv:Value)(s2:Shared):Prop:=
 ∃(it:Addr) (fp:List Addr) (tn:Nat->Heap->Prop) (J:It) (H':Hp),itv=.ref it/\Ad X A0 Y H' s2/\Ev X.prog X.w X.K tg J fp it tn/\tn 0 s2.heap/\(∀b∈fp,CS X A0 H' b)/\R J H'
instance PI(X:Cx)(tg iter:Expr)(wi:TI):Prop:=
 ∀(A0:List 'p') (s:Shared) (Y:St) (H:Hp) (R:It->Hp->Prop),Ad X A0 Y H s->wi Y H R->
  wpAny 'e' X.A (eval iter X.env) (λv s1=>wpAny 'e' X.A (pyIter v) (PIE X A0 Y tg R) X.xe s1) X.xe s
def eB{n:String}(c:s.heap.get? it=some o)(e:o.cls=.type n)(b:o.data=.fields d)(f:["enumerate","zip","dict_itemiterator","dict_reverseitemiterator","odict_iterator","itertools.zip_longest","itertools.pairwise"].contains n=false)(a:Q () s):wpAny M A (letOwnedTupleGo tg (.ref it) u) Q E s:=by
 unfold letOwnedTupleGo;cases tg<;>first
  | exact Aj a
  | (cases u<;>first
   | exact Aj a
   | (refine Ac (wpAny_load c ?_)
      rw[e,b];show wpAny M A (if (["enumerate","zip","dict_itemiterator","dict_reverseitemiterator","odict_iterator","itertools.zip_longest","itertools.pairwise"].contains n&&d[0]? == some (rawInt _))=true then _ else _) Q E s;rw[if_neg (by intro h;rw[f,Bool.false_and] at h;cases h)];exact Aj a))
instance Itl(K:FG)(a:Addr):It:=
 {λi H=>∃xs x,AT K H a xs/\xs[i]?=some x,λi H x H'=>H'=H/\∀xs,AT K H a xs->xs[i]?=some x,λi H=>∃xs,AT K H a xs/\xs.length<=i}
instance Itt(K:FG)(a:Addr):It:=
 {λi H=>∃xs x,AN K H a xs/\xs[i]?=some x,λi H x H'=>H'=H/\∀xs,AN K H a xs->xs[i]?=some x,λi H=>∃xs,AN K H a xs/\xs.length<=i}
instance Itr(lo:Int)(n:Nat):It:={λi _=>i<n,λi H x H'=>H'=H/\x=.int (lo+i),λi _=>n<=i}
def nW{P:Program}{w:World}{K:FG}{b:Expr}(a g:Addr):Ev P w K b (Itl K a) [g] g (λi h=>h.IsListIter g a i) where
 mem:=by simp
 obj:=λi h a b f=>by
  have e:b=g:=by simpa using f
  subst e;obtain⟨o,e,c,d⟩:=a;exact{o,e,λv z=>by rw[d] at z;cases z}
 keep:=λi h l a k=>a.at λo e=>k g 'd' o e
 item:=by
  intro X A r G N i M s Y H E I n a B;subst A r G;obtain⟨R,x,m,y⟩:=B;obtain⟨F,J,p,O⟩:=I.list m;obtain⟨u,P,Q⟩:=J.get y;obtain⟨C,q,f2,L,z,v⟩:=n g 'd';refine wpAny_pyNext_list_item a p.isList (x:=u) (by simpa using P) λl j T=>?_
  have I1:Ad X M Y H { s with heap:=l }:=I.turned (t':=s.toks) (λb o f e=>(T.2 b f).trans e) C q L z v;obtain⟨o,e,c,d⟩:=id j;exact{u,rfl,eB (s:={ s with heap:=l }) e c d 'z' {x,H,I1,Q,{rfl,λd c=>by rw[I.list_inj c m];exact y},j,λb f=>(n b f).1}}
 done:=by
  intro X A r G N i M s Y H E I n a B;subst A r G;obtain⟨R,m,y⟩:=B;obtain⟨F,J,p,O⟩:=I.list m;obtain⟨C,q,f2,L,z,v⟩:=n g 'd';have c:=J.length;exact wpAny_pyNext_list_end (I.ok.hd N) a p.isList (by simp;omega) λl c=>{rfl,I.turned (t':=s.toks) (λb o f e=>c b o f e) C q L z v}
 self:=λ_ _ _ _ _ a h=>wpAny_pyIter_listiter a h
def nX{P:Program}{w:World}{K:FG}{b:Expr}(a l:Addr):Ev P w K b (Itt K a) [l] l (λi h=>h.IsTupleIter l a i) where
 mem:=by simp
 obj:=λi h f b g=>by
  have e:b=l:=by simpa using g
  subst e;obtain⟨o,e,c,d⟩:=f;exact{o,e,λv z=>by rw[d] at z;cases z}
 keep:=λi h n f k=>f.at λo e=>k l 'd' o e
 item:=by
  intro X C y J O i N s Y H E I r f F;subst C y J;obtain⟨T,x,q,A⟩:=F;obtain⟨j,L,p,P⟩:=I.tuple q;obtain⟨u,Q,R⟩:=L.get A;obtain⟨G,v,f2,M,B,z⟩:=r l 'd';refine wpAny_pyNext_tuple_item f (show s.heap.IsTuple a j.toArray from p) (x:=u) (by simpa using Q) λn m U=>?_
  have I1:Ad X N Y H { s with heap:=n }:=I.turned (t':=s.toks) (λb o g e=>(U.2 b g).trans e) G v M B z;obtain⟨o,e,c,d⟩:=id m;exact{u,rfl,eB (s:={ s with heap:=n }) e c d 'z' {x,H,I1,R,{rfl,λd c=>by rw[I.tuple_inj c q];exact A},m,λb g=>(r b g).1}}
 done:=by
  intro X C y J O i N s Y H E I r f F;subst C y J;obtain⟨T,q,A⟩:=F;obtain⟨j,L,p,P⟩:=I.tuple q;obtain⟨G,v,f2,M,B,z⟩:=r l 'd';have c:=L.length;exact wpAny_pyNext_tuple_end (I.ok.hd O) f (show s.heap.IsTuple a j.toArray from p) (by simp;omega) λn a=>{rfl,I.turned (t':=s.toks) (λb o g e=>a b o g e) G v M B z}
 self:=λ_ _ _ _ _ f h=>wpAny_pyIter_tupleiter f h
def nY{P:Program}{w:World}{K:FG}{a:Expr}(c:Addr)(l:Int)(n:Nat):Ev P w K a (Itr l n) [c] c (λi h=>IsRangeIter h c (l+(i:Nat)*1) ((n:Int)-(i:Nat)) 1) where
 mem:=by simp
 obj:=λi h a b d=>by
  have e:b=c:=by simpa using d
  subst e;exact{_,a,λv z=>by
   have z':Data.fields _=Data.cell v:=z;cases z'}
 keep:=λi h g a k=>k c 'd' _ a
 item:=by
  intro X A x r u i F s Y H E I j a m;subst A x r;obtain⟨p,q,f2,B,z,y⟩:=j c 'd';have W:=Walks.range (prog:=X.prog) (w:=X.w) (I.ok.hd u) c l 1 n;refine W.item i s _ _ m a λv g C o f G=>?_
  obtain⟨t,rfl⟩:=o;have I1:Ad X F Y H { s with heap:=g,toks:=C }:=I.turned (λb o d e=>G b o (by simpa using d) e) p q B z y;refine{_,rfl,eB (s:={ s with heap:=g,toks:=C }) (n:="range_iterator") f rfl rfl 'z' {.int (l+i),H,I1,{t,?_},⟨rfl,rfl⟩,f,λb d=>(j b d).1}};rw[Int.mul_one]
 done:=by
  intro X A x r u i F s Y H E I j a m;subst A x r;obtain⟨p,q,f2,B,z,y⟩:=j c 'd';exact wpAny_pyNext_range_end (I.ok.hd u) a (by have:n<=i:=m;omega) λg c=>{rfl,I.turned (t':=s.toks) (λb o d e=>c b o d e) p q B z y}
 self:=λ_ _ _ _ _ a h=>wpAny_pyIter_rangeiter a h
def J4(K:FG)(tl:TE):TI:=λY H R=>tl Y H λx H1=>∃a,x=.ref a/\(∃xs,AT K H1 a xs)/\R (Itl K a) H1
def J5(K:FG)(tl:TE):TI:=λY H R=>tl Y H λx H1=>∃a,x=.ref a/\(∃xs,AN K H1 a xs)/\R (Itt K a) H1
def n3{l:Expr}{a:TE}(c:PE X l a):PI X tg l (J4 X.K a):=by
 intro b s Y H R I h;refine ag (c b s Y H _ I h) λv c hI76=>?_
 obtain⟨x,H1,I1,r1,q1⟩:=hI76;obtain⟨a,e,⟨d,b⟩,q⟩:=q1;subst e;cases r1;obtain⟨d,f,p,g⟩:=I1.list b;refine wpAny_pyIter_list p.isList ?_;refine{c.heap.objs.size,[c.heap.objs.size],_,_,H1,rfl,I1.kept (t':=c.toks) λb o e=>AH _ e,nW a _,{_,AZ _ rfl,rfl,rfl},λb a=>?_,q};have e:b=c.heap.objs.size:=by simpa using a
 subst e;exact I1.fpOk (Al _) (I1.hok.fresh (Al _))
def n4{l:Expr}{a:TE}(c:PE X l a):PI X tg l (J5 X.K a):=by
 intro b s Y H R I h;refine ag (c b s Y H _ I h) λv c hI77=>?_
 obtain⟨x,H1,I1,r1,q1⟩:=hI77;obtain⟨a,e,⟨b,d⟩,q⟩:=q1;subst e;cases r1;obtain⟨b,f,p,g⟩:=I1.tuple d;refine wpAny_pyIter_tuple (show c.heap.IsTuple a b.toArray from p) ?_;refine{c.heap.objs.size,[c.heap.objs.size],_,_,H1,rfl,I1.kept (t':=c.toks) λb o e=>AH _ e,nX a _,{_,AZ _ rfl,rfl,rfl},λb a=>?_,q};have e:b=c.heap.objs.size:=by simpa using a
 subst e;exact I1.fpOk (Al _) (I1.hok.fresh (Al _))
def n5{b:List 'p'}{Y:St}{H:Hp}{s:Shared}{R:It->Hp->Prop}{E:Value->Shared->Prop}{a c:Int}{t u v:Tok}{d:Nat}(I:Ad X b Y H s)(h:-(2 ^ 62)<=a)(e:a<2 ^ 62)(f:-(2 ^ 62)<=c)(g:c<2 ^ 62)(q:R (Itr a (c-a).toNat) H):wpAny 'e' X.A (pyIter (.ref s.heap.objs.size)) (PIE X b Y tg R) E { s with heap:=s.heap.push { cls:=.type "range",data:=.fields #[.int a t,.int c u,.int 1 v] },toks:=d }:=by
 refine wpAny_pyIter_range (IsRange.new ..) (small_one h e f g) ?_;have I1:Ad X b Y H { s with heap:=s.heap.push { cls:=.type "range",data:=.fields #[.int a t,.int c u,.int 1 v] },toks:=d }:=I.kept λb o e=>AH _ e
 refine{(s.heap.push { cls:=.type "range",data:=.fields #[.int a t,.int c u,.int 1 v] }).objs.size,[(s.heap.push { cls:=.type "range",data:=.fields #[.int a t,.int c u,.int 1 v] }).objs.size],_,_,H,rfl,I1.kept (t':=d) λb o e=>AH _ e,nY _ a (c-a).toNat,?_,λb d=>?_,q}
 ·have f:a+((0:Nat):Int)*1=a:=by simp
  have g:(((c-a).toNat:Nat):Int)-((0:Nat):Int)=Builtin.Range.rangeSize a c 1:=by rw[rangeSize_one];split<;>omega
  show IsRangeIter _ _ (a+((0:Nat):Int)*1) ((((c-a).toNat:Nat):Int)-((0:Nat):Int)) 1;rw[f,g];exact AZ _ rfl
 ·have e:b=(s.heap.push { cls:=.type "range",data:=.fields #[.int a t,.int c u,.int 1 v] }).objs.size:=by simpa using d
  subst e;exact I1.fpOk (Al _) (I1.hok.fresh (Al _))
def J6(ta:TA):TI:=λY H R=>ta Y H λvs H1=>∃j:Int,vs=[.int j]/\-(2 ^ 62)<=j/\j<2 ^ 62/\R (Itr 0 j.toNat) H1
def n6{a:Expr}{b:TA}{p pos:Pos}(d:Gl X "range")(e:X.mg "range" = none)(f:PA X [a] b)(c:autoParam (starEach [a] X.env=[(false,eval a X.env)]) uR):PI X tg (.Call (.Name "range" p) [a] [] pos) (J6 b):=by
 intro a s Y H R I h;refine Call_ (cY I d e boot_range (PyProof.Rows.callWith_type1 (ag (f pos a s Y H _ I h) λb a hI78=>?_) c rfl));obtain⟨a,H1,I1,r1,q1⟩:=hI78;obtain⟨j,e,q1,q2,q⟩:=q1;subst e;cases r1 with
 | cons r a=>
   cases a;obtain⟨t,rfl⟩:=r;exact call_range_1 (n5 I1 'o' 'o' q1 q2 (by simpa using q))
def J7(wi:TI)(g:TG)(tb:TS):TS:=λD Y H=>wi Y H λJ H1=>∃W:Nat->Nat->St->Hp->Prop,(∃m,W 0 m Y H1)/\∀i m Y H,W i m Y H->
 (J.stop i H/\D.nx Y H)\/(J.go i H/\∃N:St->Hp->Prop,(∀Y' H',N Y' H'->∃m',m' < m/\W (i+1) m' Y' H')/\∀x H',J.yld i H x H'->g x Y H' λY2 H2=>tb { D with nx:=N,ct:=N,bk:=D.nx } Y2 H2)
def Gc(fp:List Addr)(h:Heap):List 'p':=fp.filterMap λb=>(h.get? b).map λo=>(b,o)
def eC{a:List Addr}{h:Heap}{b:Addr}{o:Obj}(c:b∈a)(e:h.get? b=some o):(b,o)∈Gc a h:=List.mem_filterMap.mpr {b,c,by rw[e];rfl}
def n7(a:p∈Gc fp h):p.1∈fp/\h.get? p.1=some p.2:=by
 obtain⟨b,c,e⟩:=List.mem_filterMap.mp a;cases q:h.get? b with
 | none=>rw[q] at e;cases e
 | some o=>
   rw[q] at e;have e':(b,o)=p:=Option.some.inj e;subst e';exact⟨c,q⟩
def Ad.pinned{c:List 'p'}{Y:St}{H:Hp}{s:Shared}{a:List Addr}(I:Ad X c Y H s)(f:∀b∈a,CS X c H b)(g:∀b∈a,∃o,s.heap.get? b=some o/\∀v,o.data≠.cell v):Ad X (c++Gc a s.heap) Y H s:=
 I.pins_of λp a=>(Br.mp a).elim (λz=>I.pin p (Dw _ z)) λz=>by
  obtain⟨a,e⟩:=n7 z;obtain⟨b,c,f2,_⟩:=f p.1 a;obtain⟨o,e',d⟩:=g p.1 a;rw[e] at e';cases e';exact⟨e,b,c,f2,d⟩
def Ad.unpinned{a pl:List 'p'}{Y:St}{H:Hp}{s:Shared}(I:Ad X (a++pl) Y H s):Ad X a Y H s:=I.pins_of λp a=>I.pin p (Dw _ (Ei _ a))
open H in
def n8{b:Expr}{c:List Stmt}{d:TI}{g:TG}{tb:TS}{pos:Pos}(p:PassesOwn 'e' X.A X.env X.xe)(u:X.calm=true)(C:PI X tg b d)(A:PG X tg g)(a:Cm X c tb)(f:autoParam (∀x,foldedSetIterable b X.env x=pure x) z0c._auto_1):PS X (.For tg b c [] pos) (J7 d g tb):=by
 intro j s Y H D I h;refine wpAny_For (ag (C j s Y H _ I h) λv e d=>ag d λc g b=>?_) f;obtain⟨c,l,s,J,H2,e,I2,T,f,f2,W,⟨g,o⟩,q⟩:=b;subst e
 -- what stays true of the iterator's objects through the loop
 have c:∀{d:Hp},(∀b∈l,d b=none)->∀b∈l,CS X j d b:=λh b a=>{h b a,(f2 b a).2}
 refine codeAny_forLoop_any (λn s'=>∃i h d,Ad X j h d s'/\s i s'.heap/\(∀b∈l,d b=none)/\W i n h d) ?_ g {0,Y,H2,I2,f,λb a=>(f2 b a).1,o};rintro n y ⟨i,m,H3,I3,f,g,r⟩;rcases q i n m H3 r with⟨o,q⟩ | ⟨z,N,E,step⟩
 ·refine wpAny_passesOwn p (ag (T.done X rfl rfl rfl u i j y m H3 X.xe I3 (c g) f o) λr B hI79=>?_)
  obtain⟨o,I4⟩:=hI79;subst o;exact wpAny_execs_nil ⟨m,H3,I4,q⟩
 ·refine wpAny_passesOwn p (ag (T.item X rfl rfl rfl u i j y m H3 X.xe I3 (c g) f z) λr B hI80=>?_)
  obtain⟨u,o,f⟩:=hI80;subst o;refine wpAny_passesOwn p (ag f λ_ q hI81=>?_);obtain⟨x,H5,I5,o,r,g,f⟩:=hI81;have I5':=I5.pinned (c f) (T.obj _ _ g);refine wpAny_passesOwn p (ag (A _ q m H5 x u _ I5' o (step x H5 r)) λ_ c hI82=>?_);obtain⟨m,H6,I6,q6⟩:=hI82;refine wpAny_passesOwn p (ag (a _ c m H6 _ I6 q6) λf o q7=>?_);have again:∀{c:St} {H7:Hp},Ad X (j++Gc l q.heap) c H7 o->N c H7->∃m,m<n/\∃i h d,Ad X j h d o/\s i o.heap/\(∀b∈l,d b=none)/\W i m h d:=λ{c H7} I7 j=>by
   obtain⟨l,d,h⟩:=E c H7 j;refine{l,d,i+1,c,H7,I7.unpinned,T.keep _ _ _ g λb a o e=>(I7.pin (b,o) (Dw _ (Dw _ (eC a e)))).1,λb a=>?_,h};obtain⟨o,e,d⟩:=T.obj _ _ g b a;exact(I7.pin (b,o) (Dw _ (Dw _ (eC a e)))).2.1
  cases f with
  | next=>obtain⟨c,H7,I7,j⟩:=q7;exact again I7 j
  | cont=>obtain⟨c,H7,I7,j⟩:=q7;exact again I7 j
  | brk=>obtain⟨c,H7,I7,q7⟩:=q7;exact⟨c,H7,I7.unpinned,q7⟩
  | ret v=>obtain⟨a,c,H7,I7,r7,q7⟩:=q7;exact⟨a,c,H7,I7.unpinned,r7,q7⟩
abbrev R2:=V->V->Hp->VK->Prop
def AU(X:Cx)(f:Value->Value->Sem Value)(r:R2):Prop:=
 ∀(A0:List 'p') (s:Shared) (Y:St) (H:Hp) (x y:V) (v u:Value) (Q:VK),Ad X A0 Y H s->An x v->An y u->r x y H Q->
  wpAny 'e' X.A (f v u) (EP X A0 Y Q) X.xe s
instance UnR(X:Cx)(f:Value->Sem Value)(r:V->Hp->VK->Prop):Prop:=
 ∀(A0:List 'p') (s:Shared) (Y:St) (H:Hp) (x:V) (v:Value) (Q:VK),Ad X A0 Y H s->An x v->r x H Q->
  wpAny 'e' X.A (f v) (EP X A0 Y Q) X.xe s
def CA(X:Cx)(f:Value)(r:List V->Hp->VK->Prop):Prop:=
 ∀(A0:List 'p') (s:Shared) (Y:St) (H:Hp) (xs:List V) (us:List Value) (Q:VK),Ad X A0 Y H s->Ao xs us->r xs H Q->
  wpAny 'e' X.A (call f us) (EP X A0 Y Q) X.xe s
instance tOp(r:R2)(ta tb:TE):TE:=λY H Q=>ta Y H λx H1=>tb Y H1 λy H2=>r x y H2 Q
instance tUn(r:V->Hp->VK->Prop)(ta:TE):TE:=λY H Q=>ta Y H λx H1=>r x H1 Q
instance rI(C:Int->Int->Prop)(g:Int->Int->V):R2:=λx y H Q=>∃i j,x=.int i/\y=.int j/\C i j/\Q (g i j) H
def DX(g:Int->Int->V):R2:=λx y H Q=>∃i j,x=.int i/\y=.int j/\Q (g i j) H
instance rU(g:Int->V):V->Hp->VK->Prop:=λx H Q=>∃i,x=.int i/\Q (g i) H
def fW(j:PE X a ta)(g:PE X b tb){e:List 'p'}{s:Shared}{Y:St}{H:Hp}{R:V->V->Hp->Prop}(I:Ad X e Y H s)(h:ta Y H λx H1=>tb Y H1 λy H2=>R x y H2){Q:Value->Shared->Prop}{f:Value->Value->Sem Value}(i:∀v u d x y H2,Ad X e Y H2 d->An x v->An y u->R x y H2->wpAny 'e' X.A (f v u) Q X.xe d) :
 wpAny 'e' X.A (eval a X.env) (λv c=>wpAny 'e' X.A (eval b X.env) (λu a=>wpAny 'e' X.A (f v u) Q X.xe a) X.xe c) X.xe s:=by
 refine ag (j e s Y H _ I h) λv a hI83=>?_
 obtain⟨x,H1,I1,r1,q1⟩:=hI83;refine ag (g e a Y H1 _ I1 q1) λu d hI84=>?_
 obtain⟨y,H2,I2,r2,q2⟩:=hI84;exact i v u d x y H2 I2 r1 r2 q2
def aX{c:Operator}{r:R2}(d:AU X (binaryOp c) r)(f:PE X a ta)(e:PE X b tb):PE X (.BinOp a c b pos) (tOp r ta tb):=by
 intro g s Y H Q I h;exact wpAny_BinOp (fW f e I h λv u c x y H2 I2 a b q=>d g c Y H2 x y v u Q I2 a b q)
def n9{b:UnaryOp}{r:V->Hp->VK->Prop}(c:UnR X (unaryOp b) r)(d:PE X a ta):PE X (.UnaryOp b a pos) (tUn r ta):=by
 intro a s Y H Q I h;exact UnaryOp_ (ag (d a s Y H _ I h) λv b ⟨x,H1,I1,r1,q1⟩=>c a b Y H1 x v Q I1 r1 q1)
def opI{f:Value->Value->Sem Value}{C:Int->Int->Prop}{g:Int->Int->Int}(rule:∀(i j:Int) (t u:Tok) (s:Shared) (Q:Value->Shared->Prop) (E:Value->Shared->Prop),C i j->Q (.int (g i j) s.toks) { s with toks:=s.toks+1 }->wpAny 'e' X.A (f (.int i t) (.int j u)) Q E s) :
 AU X f (rI C λi j=>.int (g i j)):=by
 intro a s Y H x y v u Q I b c h;obtain⟨i,j,rfl,rfl,d,q⟩:=h;obtain⟨t,rfl⟩:=b;obtain⟨a,rfl⟩:=c;exact rule i j t a s _ _ d {.int (g i j),H,I.tok _,{_,rfl},q}
def iR{f:Value->Value->Sem Value}{g:Int->Int->Int}(rule:∀(i j:Int) (t u:Tok) (s:Shared) (Q:Value->Shared->Prop) (E:Value->Shared->Prop),Q (.int (g i j) s.toks) { s with toks:=s.toks+1 }->wpAny 'e' X.A (f (.int i t) (.int j u)) Q E s) :
 AU X f (DX λi j=>.int (g i j)):=by
 intro a s Y H x y v u Q I b c h;obtain⟨i,j,rfl,rfl,q⟩:=h;obtain⟨t,rfl⟩:=b;obtain⟨a,rfl⟩:=c;exact rule i j t a s _ _ {.int (g i j),H,I.tok _,{_,rfl},q}
def eD{f:Value->Value->Sem Value}{g:Int->Int->Bool}(rule:∀(i j:Int) (t u:Tok) (s:Shared) (Q:Value->Shared->Prop) (E:Value->Shared->Prop),Q (.bool (g i j)) s->wpAny 'e' X.A (f (.int i t) (.int j u)) Q E s) :
 AU X f (DX λi j=>.bl (g i j)):=by
 intro a s Y H x y v u Q I b c h;obtain⟨i,j,rfl,rfl,q⟩:=h;obtain⟨t,rfl⟩:=b;obtain⟨a,rfl⟩:=c;exact rule i j t a s _ _ {.bl (g i j),H,I,rfl,q}
def GW(i j:Int):Prop:=0<j/\j<1073741824
def Jb(i j:Int):Prop:=j≠0/\j.natAbs<1073741824
def GX(i j:Int):Prop:=0<=j/\j<=1000000/\i.natAbs<2 ^ 64
def DK(i j:Int):Prop:=(-(2 ^ 64)<i/\i<2 ^ 64)\/(-(2 ^ 64)<j/\j<2 ^ 64)
def DK.ok{i j:Int}(h:DK i j):IntMulOk i j:=by
 rcases h with⟨b,a⟩ | ⟨b,a⟩
 ·exact .of_left (intBits_le_64 b a)
 ·exact .of_right (intBits_le_64 b a)
def dJ:AU X (binaryOp .Add) (DX λi j=>.int (i+j)):=iR λ_ _ _ _ _ _ _ q=>add_int q
def vZ:AU X (binaryOp .Sub) (DX λi j=>.int (i-j)):=iR λ_ _ _ _ _ _ _ q=>sub_int q
def cv:AU X (binaryOp .Mult) (rI DK λi j=>.int (i*j)):=opI λ_ _ _ _ _ _ _ a q=>mul_int q a.ok
def oa:AU X (binaryOp .FloorDiv) (rI GW λi j=>.int (i / j)):=opI λi j _ _ _ _ _ a q=>by
 have b:(0:Int)<j:=a.1;have b:j<1073741824:=a.2;exact floordiv_int 'o' (by rw[Int.fdiv_eq_ediv_of_nonneg i 'o'];exact q) (.inl (PyProof.noPylong_small 'o'))
def cZ:AU X (binaryOp .Mod) (rI (λ_ j=>0<j) λi j=>.int (i % j)):=opI λi j _ _ _ _ _ a q=>by
 have b:(0:Int)<j:=a;exact mod_int' 'o' (by rw[Int.fmod_eq_emod_of_nonneg i 'o'];exact q)
def og:AU X (binaryOp .Pow) (rI GX λi j=>.int (i ^ j.toNat)):=opI λ_ _ _ _ _ _ _ a q=>pow_int_small a.1 a.2.1 a.2.2 q
def unI{f:Value->Sem Value}{g:Int->Int}(rule:∀(i:Int) (t:Tok) (s:Shared) (Q:Value->Shared->Prop) (E:Value->Shared->Prop),Q (.int (g i) s.toks) { s with toks:=s.toks+1 }->wpAny 'e' X.A (f (.int i t)) Q E s) :
 UnR X f (rU λi=>.int (g i)):=by
 intro a s Y H x v Q I a h;obtain⟨i,rfl,q⟩:=h;obtain⟨t,rfl⟩:=a;exact rule i t s _ _ {.int (g i),H,I.tok _,{_,rfl},q}
def oh:UnR X (unaryOp .USub) (rU λi=>.int (-i)):=unI λ_ _ _ _ _ q=>neg_int q
def iS{k k':Bool}(I:Ad X A0 Y H s)(q:Q (.bl k) H)(e:k=k'):EP X A0 Y Q (.bool k') s:=by
 subst e;exact{.bl k,H,I,rfl,q}
def oi:AU X (compareOp .Lt) (DX λi j=>.bl (decide (i<j))):=eD λ_ _ _ _ _ _ _ q=>lt_int q
def v4:AU X (compareOp .LtE) (DX λi j=>.bl (decide (i<=j))):=eD λ_ _ _ _ _ _ _ q=>le_int q
def v6:AU X (compareOp .Gt) (DX λi j=>.bl (decide (j<i))):=eD λ_ _ _ _ _ _ _ q=>gt_int q
def oj:AU X (compareOp .GtE) (DX λi j=>.bl (decide (j<=i))):=eD λ_ _ _ _ _ _ _ q=>ge_int q
def wa:AU X (compareOp .Is) (λx y H Q=>y=.non/\Q (.bl (decide (x=.non))) H):=by
 intro a s Y H x y v u Q I a b h;obtain⟨rfl,q⟩:=h;cases b;refine is_none_gen (iS I q ?_);cases x<;>first
  | (cases a;rfl)
  | (obtain⟨t,rfl⟩:=a;rfl)
def wb:AU X (compareOp .IsNot) (λx y H Q=>y=.non/\Q (.bl (!decide (x=.non))) H):=by
 intro a s Y H x y v u Q I a b h;obtain⟨rfl,q⟩:=h;cases b;refine isnot_none_gen (iS I q ?_);cases x<;>first
  | (cases a;rfl)
  | (obtain⟨t,rfl⟩:=a;rfl)
def AU.or(h:AU X f r)(d:AU X f r'):AU X f (λx y H Q=>r x y H Q\/r' x y H Q):=by
 intro c s Y H x y v u Q I a b q;rcases q with q | q
 ·exact h c s Y H x y v u Q I a b q
 ·exact d c s Y H x y v u Q I a b q
def iT(b:Expr)(h:autoParam (op≠.In) uD)(c:autoParam (op≠.NotIn) uD):behindInMarks op b=false:=by
 have a:(op == CmpOp.In)=false:=by cases op<;>first | rfl | exact absurd rfl h
 have d:(op == CmpOp.NotIn)=false:=by cases op<;>first | rfl | exact absurd rfl c
 cases b<;>simp[behindInMarks,a,d]
def om(d:AU X (compareOp op) r)(e:PE X a ta)(c:PE X b tb)(f:behindInMarks op b=false):PE X (.Compare a [op] [b] pos) (tOp r ta tb):=by
 intro b s Y H Q I h;exact wpAny_Compare1 (fW e c I h λv u a x y H2 I2 c e q=>d b a Y H2 x y v u Q I2 c e q) f
def Jc(t:TE):TT:=λY H Q=>t Y H λx H'=>∃k,x=.bl k/\Q k H'
def fX{c:CmpOp}{r:R2}(d:AU X (compareOp c) r)(g:PE X a ta)(e:PE X b tb)(f:behindInMarks c b=false):PT X (.Compare a [c] [b] pos) (Jc (tOp r ta tb)):=by
 intro a s Y H Q I h;refine wpAny_isTrue_Compare1 (ag (g a s Y H _ I h) λv b ⟨x,H1,I1,r1,q1⟩=>ag (e a b Y H1 _ I1 q1) λu b ⟨y,H2,I2,r2,q2⟩=>ag (d a b Y H2 x y v u _ I2 r1 r2 q2) λc a hI85=>?_) f;obtain⟨z,H3,I3,r3,k,e,q3⟩:=hI85;subst e;cases r3;exact Ee ⟨H3,I3,q3⟩
def HG(r r':R2)(ta tb tc:TE):TE:=λY H Q=>ta Y H λx H1=>tb Y H1 λy H2=>r x y H2 λz H3=>∃k,z=.bl k/\
 (if k=true then tc Y H3 λw' H4=>r' y w' H4 Q else Q (.bl false) H3)
def oo{e d:CmpOp}{r r':R2}(i:AU X (compareOp e) r)(f:AU X (compareOp d) r')(l:PE X a ta)(g:PE X b tb)(m:PE X c tc)(j:autoParam (lastMarks [e,d] [b,c]=false) z0d._auto_1):PE X (.Compare a [e,d] [b,c] pos) (HG r r' ta tb tc):=by
 intro a s Y H Q I h;refine Compare_chain (ag (l a s Y H _ I h) λv b ⟨x,H1,I1,r1,q1⟩=>chain_link (ag (g a b Y H1 _ I1 q1) λu b ⟨y,H2,I2,r2,q2⟩=>ag (i a b Y H2 x y v u _ I2 r1 r2 q2) λd b hI86=>?_)) j;obtain⟨z,H3,I3,r3,k,e,q3⟩:=hI86;subst e;cases r3;refine Ee ?_;cases k with
 | false=>exact ite_ff {.bl false,H3,I3,rfl,q3}
 | true=>exact ite_tt (chain_last (ag (m a b Y H3 _ I3 q3) λw' b ⟨z',d,I4,c,e⟩=>f a b Y d y z' u w' Q I4 r2 c e))
def oq{e d:CmpOp}{r r':R2}(i:AU X (compareOp e) r)(f:AU X (compareOp d) r')(l:PE X a ta)(g:PE X b tb)(m:PE X c tc)(j:autoParam (lastMarks [e,d] [b,c]=false) z0d._auto_1):PT X (.Compare a [e,d] [b,c] pos) (Jc (HG r r' ta tb tc)):=by
 intro a s Y H Q I h;refine isTrue_chain (ag (l a s Y H _ I h) λv b ⟨x,H1,I1,r1,q1⟩=>test_link (ag (g a b Y H1 _ I1 q1) λu b ⟨y,H2,I2,r2,q2⟩=>ag (i a b Y H2 x y v u _ I2 r1 r2 q2) λd b hI87=>?_)) j;obtain⟨z,H3,I3,r3,k,e,q3⟩:=hI87;subst e;cases r3;refine Ee ?_;cases k with
 | false=>
   obtain⟨k',e',c⟩:=q3;cases e';exact ite_ff ⟨H3,I3,c⟩
 | true=>
   refine ite_tt (test_last (ag (m a b Y H3 _ I3 q3) λw' b ⟨z',d,I4,c,e⟩=>ag (f a b Y d y z' u w' _ I4 r2 c e) λd' a hI88=>?_));obtain⟨c,H5,I5,b,d,a,q5⟩:=hI88;subst a;cases b;exact Ee ⟨H5,I5,q5⟩
def dM:(sizeLine:Nat)<2 ^ 63:=by rw[sizeLine_eq];decide
def bE(r:Ao [x] a):∃u,a=[u]/\An x u:=by
 cases r with
 | cons r1 r2=>cases r2;exact{_,rfl,r1}
def iU(r:Ao [x,y] b):∃u w',b=[u,w']/\An x u/\An y w':=by
 cases r with
 | cons r1 r2=>
   cases r2 with
   | cons r3 a=>cases a;exact{_,_,rfl,r1,r3}
def wc(a:X.calm=true):CA X (.builtin "min") (λb H Q=>∃i j,b=[.int i,.int j]/\Q (.int (if j<i then j else i)) H):=by
 intro c s Y H b d Q I r h;obtain⟨i,j,rfl,q⟩:=h;obtain⟨u,w',rfl,⟨t,rfl⟩,⟨c,rfl⟩⟩:=iU r;refine min_two_ints (I.ok.hd a) λc d k=>{_,H,I.kept k,?_,q}
 by_cases a:j<i
 ·rw[if_pos a,if_pos a];exact{_,rfl}
 ·rw[if_neg a,if_neg a];exact{_,rfl}
def wd:CA X (.type "int") (λa H Q=>(∃i,a=[.int i]/\Q (.int i) H)\/∃k,a=[.bl k]/\Q (.int (if k then 1 else 0)) H):=by
 intro c s Y H a b Q I r h;rcases h with⟨i,rfl,q⟩ | ⟨k,rfl,q⟩
 ·obtain⟨u,rfl,t,rfl⟩:=bE r
  exact call_int_int {.int i,H,I,{_,rfl},q}
 ·obtain⟨u,rfl,r1⟩:=bE r
  cases r1;exact call_int_bool {.int (if k then 1 else 0),H,I.tok _,{_,rfl},q}
def ot:CA X (.builtin "divmod") (λa H Q=>∃i j,a=[.int i,.int j]/\GW i j/\∀p,H p=none->Q (.ref p) (Af H p (.tup [.int (i / j),.int (i % j)]))):=by
 intro b s Y H a c Q I r h;obtain⟨i,j,rfl,⟨c,b⟩,q⟩:=h;obtain⟨u,w',rfl,⟨t,rfl⟩,⟨b,rfl⟩⟩:=iU r;refine divmod_int 'o' ?_ (.inl (PyProof.noPylong_small 'o'));rw[Int.fdiv_eq_ediv_of_nonneg i 'o',Int.fmod_eq_emod_of_nonneg i 'o'];have c:H s.heap.objs.size=none:=I.hok.fresh (Al _);refine{.ref s.heap.objs.size,_,?_,rfl,q _ c};refine I.laid (λb o e=>AH _ e) (Al _) {by simp only[B1,FK];rw[sizeLine_eq];decide,[.int (i / j) s.toks,.int (i % j) (s.toks+1)],.cons {_,rfl} (.cons {_,rfl} .nil),?_};exact{{_,AZ s.heap rfl,rfl,0,rfl},{_,AZ _ rfl,rfl}}
section
variable{prog:Program}{w:World}{A:Around}{E:Value->Shared->Prop}{s:Shared}{K:FG}{x dx C f:Addr}{mA:Str->Option Value}{name:Str}{v:Value}
end
theorem DJ.some_of(r:DJ (some v) o):∃u,o=some u/\An v u:=by
 cases o with
 | none=>exact(show False from r).elim
 | some u=>exact⟨u,rfl,r⟩
section
variable{f:Str}{X:Cx}{A0:List 'p'}{Y:St}{H:Hp}{s:Shared}{A:Around}{E Q:Value->Shared->Prop}{c:Value}{b:Bool}
end
structure Bc(k:Nat)(A:Around):Prop where
 hd:A.handled=none
 dp:A.depth+3*k+5<recursionLimit
 un:A.units+16*k+200<cLine
 gd:A.guards=some []
def Bc.mono{j k:Nat}(r:Bc k A)(h:j<=k):Bc j A:={r.hd,by have:=r.dp;omega,by have:=r.un;omega,r.gd}
def Bc.deeper{k:Nat}(r:Bc (k+1) A)(env:Env):Bc k (A.deeper env):=
 {r.hd,by have:=r.dp;show A.depth+1+3*k+5<_;omega,by have:=r.un;show A.units+3+16*k+200<_;omega,r.gd}
def Bc.depth{k:Nat}(r:Bc k A):A.depth<recursionLimit:=by have:=r.dp;omega
def Bc.units{k:Nat}(r:Bc k A):A.units+64<cLine:=by have:=r.un;omega
def J8:TA:=λ_ H Q=>Q [] H
def Jd(ta:TE)(tr:TA):TA:=λY H Q=>ta Y H λx H1=>tr Y H1 λxs H2=>Q (x::xs) H2
def bu:PA X [] J8:=λ_ _ _ _ H Q I h=>Calls.spliced_nil {[],H,I,.nil,h}
def bp(d:PE X e te)(b:PA X es t)(c:autoParam 's' uR):PA X (e::es) (Jd te t):=by
 intro pos a s Y H Q I h;rw[c];show wpAny _ _ (spliced ((false,eval e X.env)::backTo pos (starEach es X.env))) _ _ s;refine Calls.spliced_cons (ag (d a s Y H _ I h) λu c hI89=>?_);obtain⟨x,H1,I1,r1,q1⟩:=hI89;exact ag (b pos a c Y H1 _ I1 q1) λd b ⟨a,H2,I2,r2,q2⟩=>{x::a,H2,I2,.cons r1 r2,q2}
def J9(t:TA):TE:=λY H Q=>t Y H λxs H1=>xs.length<=sizeLine/\∀p,H1 p=none->Q (.ref p) (Af H1 p (.tup xs))
def Ka(t:TA):TE:=λY H Q=>t Y H λxs H1=>xs.length<=sizeLine/\∀p,H1 p=none->Q (.ref p) (Af H1 p (.lst xs))
def ou{x1}(h:PA X es t):PE X (.Tuple es x1 pos) (J9 t):=by
 intro a s Y H Q I b;refine wpAny_Tuple_spliced (ag (h pos a s Y H _ I b) λf a ⟨d,H1,I1,r,z,q⟩=>{by rw[<-r.length];exact z,?_});have c:H1 a.heap.objs.size=none:=I1.hok.fresh (Al _);refine{.ref a.heap.objs.size,Af H1 a.heap.objs.size (.tup d),I1.laid (t':=a.toks) (λb u e=>AH _ e) (Al _) ?_,rfl,q _ c};exact{z,f,r,{_,AZ _ rfl,rfl,_,rfl},{_,AZ _ rfl,rfl}}
def fY(h:PA X es t):PE X (.List es pos) (Ka t):=by
 intro a s Y H Q I b;refine wpAny_List_spliced (ag (h pos a s Y H _ I b) λf a ⟨d,H1,I1,r,z,q⟩=>{by rw[<-r.length];exact z,?_});have c:H1 a.heap.objs.size=none:=I1.hok.fresh (Al _);refine{.ref a.heap.objs.size,Af H1 a.heap.objs.size (.lst d),I1.laid (t':=a.toks) (λb u e=>AH _ e) (Al _) ?_,rfl,q _ c};exact{z,f,0,r,AZ _ rfl}
abbrev Sp:=List V->Hp->VK->XK->Prop
abbrev Er:=List Env->Hp->Shared->XK->Value->Shared->Prop
structure GY(P:Program)(w:World)(K:FG)(mg:Str->Option Value)(base:Heap)(A:Around)(outer:List Env)(s:Shared)(H:Hp):Prop where
 frames:A.frames=some outer
 mod:Mod K mg base
 bs:∀b o,base.get? b=some o->s.heap.get? b=some o/\H b=none
 bsz:base.objs.size<=s.heap.objs.size
 funs:s.heap.FunFrames base outer
 frf:∀b∈Ep outer,H b=none
 hok:Bm P w H s.heap
 bare:AllBare s.gens
instance CE(outer:List Env)(P:Program)(w:World)(H:Hp)(s:Shared)(Q:VK)(u:Value)(s':Shared):Prop:=
 ∃v H',s'.os=s.os/\AllBare s'.gens/\Un (Ep outer) [] H H' s.heap s'.heap/\Bm P w H' s'.heap/\An v u/\Q v H'
instance CR(CX:Er)(outer:List Env)(P:Program)(w:World)(H:Hp)(s:Shared)(Q:VK)(E:XK)(r:Result)(s':Shared):Prop:=
 match r with
 | .ok (.ret u)=>CE outer P w H s Q u s'
 | .ok _=>False
 | .error e=>CX outer H s E e s'
structure Cn(P:Program)(w:World)(K:FG)(mg:Str->Option Value)(base:Heap)(CX:Er)(k:Nat)(f:Addr)(fd:FuncData)(ps:List Str)(sp:Sp):Prop where
 len:∀vs H Q E,sp vs H Q E->vs.length=ps.length
 run:∀(A:Around) (outer:List Env) (s:Shared) (H:Hp) (args:Args) (us:List Value) (vs:List V) (Q:VK) (E:XK),Bc k A->GY P w K mg base A outer s H->BindsTo s fd args (ps.zip us)->Ao vs us->sp vs H Q E->
  codeAny (model P w) A (.call (.ref f) args) (CR CX outer P w H s Q E) s
def Cn.mono{P:Program}{w:World}{K:FG}{e:Str->Option Value}{a:Heap}{g:Er}{j k:Nat}{f:Addr}{b:FuncData}{d:List Str}{c:Sp}(F:Cn P w K e a g j f b d c)(h:j<=k) :
 Cn P w K e a g k f b d c:={F.len,λA a s H b e c Q E d=>F.run A a s H b e c Q E (d.mono h)}
def Ad.env0(I:Ad X A0 Y H s):GY X.prog X.w X.K X.mg X.base X.A X.stack s H:=
 {I.ok.frames,I.ok.mod,I.bs,Aw I.ok.bsz I.sz,I.stack,I.stkFree,I.hok,I.bare}
def Ad.after(I:Ad X A0 Y H s)(h:CE X.stack X.prog X.w H s Q u s'):EP X A0 Y Q u s':=by
 obtain⟨v,j,e,a,f,c,r,q⟩:=h;obtain⟨i,g,d,t,b⟩:=s';obtain rfl:b=s.os:=e;exact{v,j,I.call (h':=i) (g':=g) (d':=d) (t':=t) (ch:=[]) f c a (λb z=>absurd z 'd'),r,q}
def HH(sp:Sp)(dvs:List V)(E:XK)(t:TA):TE:=λY H Q=>t Y H λvs H1=>sp (vs++dvs) H1 Q E
def FP(K:FG)(fd:FuncData)(ps:List Str)(ds:List Value):Prop:=
 ∀(s:Shared) (us:List Value),K.In s.heap->(us++ds).length=ps.length->BindsTo s fd {us,[]} (ps.zip (us++ds))
def FP.all{K:FG}{b:FuncData}{ps:List Str}(h:∀a:List Value,a.length=ps.length->bindArgs b {a,[]}=pure (ps.zip a)):FP K b ps []:=λs a _ b=>by
 rw[C8] at b ⊢;exact .of_eq (h a b)
def HI(CX:Er)(X:Cx)(E:XK):Prop:=∀(A0:List 'p') (Y:St) (H:Hp) (s:Shared) (e:Value) (s':Shared),Ad X A0 Y H s->CX X.stack H s E e s'->X.xe e s'
section
variable{X:Cx}{CX:Er}{k:Nat}{f C:Addr}{fd:FuncData}{ps:List Str}{sp:Sp}{dvs:List V}{ds:List Value}{E:XK}{x m:Str}{p pos apos:Pos}{e o:Expr}{es:List Expr}{ta:TE}{t:TA}{ks:List Str}{kpos:Pos}{kws:List Keyword}{te:TE}{tk:TA}{nm:Option Str}
open H in
def ow{d:List 'p'}{Y:St}{H:Hp}{s:Shared}{Q:VK}{a:List Value}{c:List V}(F:Cn X.prog X.w X.K X.mg X.base CX k f fd ps sp)(j:Bc k X.A)(g:FP X.K fd ps ds)(b:Ao dvs ds)(l:HI CX X E)(I:Ad X d Y H s)(r:Ao c a)(h:sp (c++dvs) H Q E):wpAny 'e' X.A (call (.ref f) a) (EP X d Y Q) X.xe s:=by
 have r2:Ao (c++dvs) (a++ds):=r.append b;have i:(a++ds).length=ps.length:=by rw[<-r2.length];exact F.len _ _ _ _ h
 refine wpAny_call (codeAny_mono (F.run X.A X.stack s H {a,[]} (a++ds) (c++dvs) Q E j I.env0 (g s a I.kIn i) r2 h) λr s' b=>?_);cases r with
 | error e=>exact l d Y H s e s' I b
 | ok d=>
   cases d with
   | ret u=>exact I.after b
   | next=>exact False.elim b
   | brk=>exact False.elim b
   | cont=>exact False.elim b
def fZ(F:Cn X.prog X.w X.K X.mg X.base CX k f fd ps sp)(l:Bc k X.A)(g:Gl X x)(q:X.mg x=some (.ref f))(i:keepIn X.K (.ref f)=true)(d:FP X.K fd ps ds)(c:Ao dvs ds)(n:HI CX X E)(r:PA X (e::es) t)(b:autoParam 'u' uD)(u:autoParam 's' uR)(a:autoParam 'i' uR) :
 PE X (.Call (.Name x p) (e::es) [] pos) (HH sp dvs E t):=by
 intro j s Y H Q I h;refine wpAny_Call_Name_kw (iP I g q ?_ b);refine PySem.W.callWith_K (h₀:=X.base) I.ok.mod.kin i (ag (r pos j s Y H _ I h) λi g ⟨b,H1,I1,r,q⟩=>{I1.kIn,?_}) u a;exact ow F l d c n I1 r q
end
structure D2(N P:List Str)(sc:Scope):Prop where
 kind:sc.kind=.function
 co:sc.isCoroutine=false
 gen:sc.isGenerator=false
 nd:N.Nodup
 pre:N.take P.length=P
 par:∀x∈P,sc.names.lookup x=some .local\/sc.names.lookup x=some .cell
 nofree:∀y∈sc.names,y.2≠.free
theorem iV{kindOf:Str->Option NameKind}{x:Str}:∀{a:List (Str×Value)} {m:Str->Option Value},(∀v,(x,v)∉a)->bindL kindOf a m x=m x
 | [],_,_=>rfl
 | (n,v)::r,m,h=>by
   unfold bindL;rw[iV λw a=>h w (DU _ a)];split
   ·have:x≠n:=by rintro rfl;exact h v C6
    simp[this]
   ·rfl
theorem iW{kindOf:Str->Option NameKind}{x:Str}:∀{a:List (Str×Value)} {m:Str->Option Value},(∀v,(x,v)∉a)->bindC kindOf a m x=m x
 | [],_,_=>rfl
 | (n,v)::r,m,h=>by
   unfold bindC;rw[iW λw a=>h w (DU _ a)];split
   ·rfl
   ·have:x≠n:=by rintro rfl;exact h v C6
    simp[this]
theorem iX{kindOf:Str->Option NameKind}{x:Str}{v:Value}:∀{P:List Str} {a:List Value} {i:Nat} {m:Str->Option Value},P.Nodup->P[i]?=some x->a[i]?=some v->kindOf x=some .local->
 bindL kindOf (P.zip a) m x=some v
 | [],_,_,_,_,h,_,_=>by simp at h
 | _::_,[],_,_,_,_,h,_=>by simp at h
 | p::P,w::a,0,m,d,c,b,e=>by
   simp at c b;subst c;subst b;show bindL kindOf ((p,w)::P.zip a) m p=_;unfold bindL;rw[iV λv f=>(Dk.mp d).1 (List.of_mem_zip f).1,if_pos e];simp
 | p::P,w::a,i+1,m,d,c,b,e=>by
   show bindL kindOf ((p,w)::P.zip a) m x=_;unfold bindL;exact iX (i:=i) (Dk.mp d).2 (by simpa using c) (by simpa using b) e
theorem iY{kindOf:Str->Option NameKind}{x:Str}{v:Value}:∀{P:List Str} {a:List Value} {i:Nat} {m:Str->Option Value},P.Nodup->P[i]?=some x->a[i]?=some v->kindOf x≠some .local->
 bindC kindOf (P.zip a) m x=some v
 | [],_,_,_,_,h,_,_=>by simp at h
 | _::_,[],_,_,_,_,h,_=>by simp at h
 | p::P,w::a,0,m,d,c,b,e=>by
   simp at c b;subst c;subst b;show bindC kindOf ((p,w)::P.zip a) m p=_;unfold bindC;rw[iW λv f=>(Dk.mp d).1 (List.of_mem_zip f).1,if_neg e];simp
 | p::P,w::a,i+1,m,d,c,b,e=>by
   show bindC kindOf ((p,w)::P.zip a) m x=_;unfold bindC;exact iY (i:=i) (Dk.mp d).2 (by simpa using c) (by simpa using b) e
instance start(N:List Str)(vs:List V):St:=vs.map some++List.replicate (N.length-vs.length) none
def Do(CX:Er)(P:Program)(w:World)(K:FG)(mg:Str->Option Value)(base:Heap)(N:List Str)(qual:Str)(scope:Scope)(f:Addr)(cd:Value)(A:Around)(outer:List Env)(s:Shared)(H:Hp)(E:XK):Cx where
 prog:=P
 w:=w
 K:=K
 mg:=mg
 base:=base
 A:=A.deeper (envOfC qual scope s.heap.objs.size f cd)
 N:=N
 s₀:=s
 H₀:=H
 env:=envOfC qual scope s.heap.objs.size f cd
 outer:=outer
 stack:=envOfC qual scope s.heap.objs.size f cd::outer
 ex:=[]
 calm:=true
 fn:=λ_=>true
 pn:=[]
 xe:=λe s'=>wpAny (model P w) (A.deeper (envOfC qual scope s.heap.objs.size f cd)) (leaving (envOfC qual scope s.heap.objs.size f cd) e) (λ_ s''=>CX outer H s E e s'') (λe' s''=>CX outer H s E e' s'') s'
def iZ{a:Scope}{n:Nat}{x:Str}(h:a.names.lookup x=some .cell):∃c,(cellsFrom n a.names []).lookup x=some c:=by
 have q:=PySem.W.cellsFrom_some a.names n [] (.inl h);exact Option.isSome_iff_exists.mp q
def ox{p:Er}{P:Program}{w:World}{K:FG}{i:Str->Option Value}{d:Heap}{N j:List Str}{c:Str}{scope:Scope}{f:Addr}{h:Value}{A:Around}{a:List Env}{s b:Shared}{H:Hp}{E:XK}{o:List Value}{l:List V}(S:D2 N j scope)(u:A.handled=none)(g:GY P w K i d A a s H)(e:l.length=j.length)(r:Ao l o)(x:InCallC s s.heap.objs.size (bindL (envOfC c scope s.heap.objs.size f h).kindOf (j.zip o) λ_=>none) (cellsFrom (s.heap.objs.size+1) scope.names []) (bindC (envOfC c scope s.heap.objs.size f h).kindOf (j.zip o) λ_=>none) b) :
 Ad (Do p P w K i d N c scope f h A a s H E) [] (start N l) H b:=by
 have e:j.length<=N.length:=by have:=congrArg List.length S.pre;rw[B9] at this;omega
 obtain⟨m,b,rfl,q⟩:=x.done;have e:∀b:Addr,b∉(Do p P w K i d N c scope f h A a s H E).ex:=λb z=>absurd (show b∈([]:List Addr) from z) 'd'
 refine{{g.mod,S.kind,rfl,rfl,Al _,λy z c m d=>?_,λy a=>?_,λy c _ h=>?_,λ_=>u,Around.frames_deeper g.frames,.inr ⟨rfl,rfl⟩,λb z=>absurd z (e b),g.bs,g.bsz,λb _ _=>e b,λb z=>absurd z (e b),g.funs,g.frf},rfl,g.bare,Un.kept q,{_,x.toInCall.ns,λi y v m d b=>?_},λy c h=>{_,x.cell y c h},g.hok.fresh (Al _),λy c h=>?_,λp b=>absurd (show p∈([]:List 'p') from b) 'd',g.hok.kept q,?_}
 ·exact name_of_addr x.apart (PySem.mem_of_lookup m) (PySem.mem_of_lookup d)
 ·have a:scope.names.lookup y=some .cell\/scope.names.lookup y=some .free:=a
  rcases a with a | a
  ·exact iZ a
  ·exact absurd rfl (S.nofree _ (PySem.mem_of_lookup a))
 ·exact Bw (x.above y c (PySem.mem_of_lookup h))
 ·have a:i<l.length:=by
   unfold start at d;by_cases a:i<l.length
   ·exact a
   ·rw[List.getElem?_append_right (by simpa using a)] at d
    rw[List.getElem?_replicate] at d;split at d<;>cases d
  have p:l[i]?=some v:=by
   unfold start at d;rw[List.getElem?_append_left (by simpa using a),AX] at d;cases e:l[i]? with
   | none=>rw[e] at d;cases d
   | some a=>rw[e] at d;cases d;rfl
  obtain⟨u,f,q⟩:=r.get p;have b:j[i]?=some y:=by
   rw[<-S.pre,List.getElem?_take_of_lt 'o'];exact m
  have a:j.Nodup:=by rw[<-S.pre];exact S.nd.sublist (List.take_sublist _ _)
  refine{u,q,?_};rcases S.par y (Ct b) with k | k
  ·exact .inl {k,iX a b f k}
  ·obtain⟨c,e⟩:=iZ (n:=s.heap.objs.size+1) k
   refine .inr {.inl k,c,e,?_};have q:=x.cell y c e;rw[iY a b f (by show scope.names.lookup y≠_;rw[k];decide)] at q;exact q
 ·exact g.hok.fresh (Bw (x.above y c (PySem.mem_of_lookup h)))
 ·unfold start
  show _=N.length;rw[A4,Ai,List.length_replicate];omega
open H in
def oy{B:Er}{P:Program}{w:World}{K:FG}{z:Str->Option Value}{g:Heap}{k:Nat}{f:Addr}{j c:Str}{b:Arguments}{e:List Stmt}{scope:Scope}{p kV m y d r i:Value}{C l:Option Addr}{a:Array (Option Value)}{N q:List Str}{o:Sp}(L:K.lookup f=some {i,l,.func (fnOf j c b e scope p kV m y C d r),a})(x:codeIn K d c=true)(S:D2 N q scope)(n:∀h H Q E,o h H Q E->h.length=q.length)(l:∀(A:Around) (a:List Env) (s:Shared) (H:Hp) (h:List V) (Q:VK) (E:XK),Bc k (A.deeper (envOfC c scope s.heap.objs.size f d))->o h H Q E->
  ∃t,Cm (Do B P w K z g N c scope f d A a s H E) e t/\t { nx:=λ_ i=>Q .non i,rt:=Q } (start N h) H) :
 Cn P w K z g B (k+1) f (fnOf j c b e scope p kV m y C d r) q o:=by
 refine{n,λA a s H b J h Q E F m I r p=>?_};have M:=n _ _ _ _ p;have G:K.In s.heap:=m.mod.kin.keeps λb o e=>(m.bs b o e).1
 have C:s.heap.NoLimit:=m.mod.nolimit.keeps λb o e=>(m.bs b o e).1
 have j:∀y∈q.zip J,scope.names.lookup y.1=some .local\/(scope.names.lookup y.1=some .cell/\((cellsFrom (s.heap.objs.size+1) scope.names []).lookup y.1).isSome=true):=λhI2 b=>by
  obtain⟨n,v⟩:=hI2;rcases S.par n (List.of_mem_zip b).1 with q | q
  ·exact .inl q
  ·exact .inr {q,PySem.W.cellsFrom_some _ _ _ (.inl q)}
 refine codeAny_call_function F.depth (G _ _ L) rfl S.co S.gen rfl (PySem.W.codeRec_of G x) (I _ _ _ _ ?_);refine wpAny_newFunctionEnv_cells S.kind j λenv n b x=>?_
 subst n;refine{C.keeps x.toInCall.keep,codeAny_func ?_};obtain⟨t,j,n⟩:=l A a s H h Q E (F.deeper _) p;have I:Ad (Do B P w K z g N c scope f d A a s H E) [] (start N h) H b:=ox S F.hd m M r x;refine Di (j [] b (start N h) H _ I n) (λj s' b=>?_) λe s' b=>b
 have fin:∀{e:St} {i:Hp} {v:V} {u:Value},Ad (Do B P w K z g N c scope f d A a s H E) [] e i s'->An v u->Q v i->CE a P w H s Q u s':=
  λ{e i v u} J a q=>⟨v,i,J.os,J.bare,J.base,J.hok,a,q⟩
 cases j with
 | ret u=>
   obtain⟨v,e,i,J,a,q⟩:=b;exact fin J a q
 | next=>
   obtain⟨e,i,J,q⟩:=b;exact fin (v:=V.non) (u:=Value.none) J rfl q
 | brk=>
   obtain⟨_,_,_,q⟩:=b;exact False.elim q
 | cont=>
   obtain⟨_,_,_,q⟩:=b;exact False.elim q
section
variable{x:Str}{id T:String}
instance tCB(r:List V->Hp->VK->Prop)(t:TA):TE:=λY H Q=>t Y H λvs H1=>r vs H1 Q
def f4(m:CA X (.builtin id) r)(d:Gl X x)(g:X.mg x=none)(i:bootBuiltins x=some (.builtin id))(j:PA X (e::es) t)(f:autoParam (x≠"__name__") uD)(b:autoParam 'u' uD)(l:autoParam 's' uR)(a:autoParam 'i' uR):PE X (.Call (.Name x p) (e::es) [] pos) (tCB r t):=by
 intro c s Y H Q I h;refine wpAny_Call_Name_kw (cY I d g i ?_ f b);exact PyProof.Rows.callWith_builtin1 (ag (j pos c s Y H _ I h) λe d ⟨b,H1,I1,r1,q1⟩=>m c d Y H1 b e Q I1 r1 q1) l a
def i0(m:CA X (.type T) r)(d:Gl X x)(g:X.mg x=none)(i:bootBuiltins x=some (.type T))(j:PA X (e::es) t)(f:autoParam (x≠"__name__") uD)(b:autoParam 'u' uD)(l:autoParam 's' uR)(a:autoParam 'i' uR):PE X (.Call (.Name x p) (e::es) [] pos) (tCB r t):=by
 intro c s Y H Q I h;refine wpAny_Call_Name_kw (cY I d g i ?_ f b);exact PyProof.Rows.callWith_type1 (ag (j pos c s Y H _ I h) λe d ⟨b,H1,I1,r1,q1⟩=>m c d Y H1 b e Q I1 r1 q1) l a
end
end L2
namespace HT
open PySem PyProof.Rows
section
open PySem.SeqAt
open PySem.AutoSeq1 (wpAny_loadPart')
open PySem.MeetsSeq PySem.MeetsSeq2 PySem.MeetsSeq3
end
def cat_tup(e:IsTup s.heap t c.toArray)(v:IsTup s.heap b ws.toArray)(p:c≠[])(x:ws=[]->Q (.ref t) s)(u:ws≠[]->Q (.ref s.heap.objs.size) { s with heap:=s.heap.push { cls:=.type "tuple",data:=.seq (c++ws).toArray } })(j:c.length+ws.length<=sizeLine):wpAny 'r' A (binaryOp .Add (.ref t) (.ref b)) Q E s:=by
 obtain⟨⟨cls,o,data,m⟩,i,r,n,l⟩:=id e;obtain⟨⟨d,f,data2,h⟩,a,g,q,d⟩:=id v;simp only at r l g d;subst r l g d;have e:c.toArray++ws.toArray=(c++ws).toArray:=by simp
 by_cases d:ws=[]
 ·exact concat_meets {_,i,rfl} {_,a,rfl} noFill_tuple_add seq_tuple_add PySem.F.slot_tuple_add PySem.F.entry_tuple_add (PySem.F.args_tuple_add_2 _ _)
   (tuple_addW1 t b c.toArray ws.toArray n q o f m h (by simpa using p) (by simp[d])) {i,a,x d}
 ·refine concat_meets {_,i,rfl} {_,a,rfl} noFill_tuple_add seq_tuple_add PySem.F.slot_tuple_add PySem.F.entry_tuple_add (PySem.F.args_tuple_add_2 _ _)
   (tuple_addW2 t b c.toArray ws.toArray n q o f m h (by simpa using p) (by simpa using d) (by rw[AQ,AQ];exact j)) {i,a,?_}
  rw[e];exact u d
instance sIx(n d:Nat):Option Int->Nat
 | none=>d
 | some v=>if v<0 then (v+(n:Int)).toNat else min v.toNat n
def sIx_none(n d:Nat):sIx n d none=d:=rfl
def sIx_nat(n d k:Nat):sIx n d (some (k:Int))=min k n:=by
 show (if (k:Int)<0 then ((k:Int)+(n:Int)).toNat else min (k:Int).toNat n)=min k n;rw[if_neg 'o',CH]
def oz(n d:Nat)(a:d<=n)(o:Option Int):sIx n d o<=n:=by
 cases o with
 | none=>exact a
 | some v=>
   show (if v<0 then (v+(n:Int)).toNat else min v.toNat n)<=n;by_cases a:v<0
   ·rw[if_pos a];omega
   ·rw[if_neg a];exact Nat.min_le_right _ _
def i4(v:Int)(n d:Nat):(if v<0 then max (v+(n:Int)) 0 else min v (n:Int))=((sIx n d (some v):Nat):Int):=by
 show (if v<0 then max (v+(n:Int)) 0 else min v (n:Int))=(((if v<0 then (v+(n:Int)).toNat else min v.toNat n):Nat):Int);by_cases a:v<0
 ·simp only[if_pos a];omega
 ·simp only[if_neg a];omega
def oB(a b:Option Int)(n:Nat):Builtin.Slice.sliceAdjust a b 1 (n:Int)=(((sIx n 0 a:Nat):Int),((sIx n n b:Nat):Int)):=by
 have c:¬((1:Int)<0):=by omega
 unfold Builtin.Slice.sliceAdjust;simp only[c,if_false];refine Prod.ext ?_ ?_
 ·cases a with
  | none=>rfl
  | some v=>exact i4 v n 0
 ·cases b with
  | none=>rfl
  | some v=>exact i4 v n n
def oC(i j:Nat):Builtin.Slice.slicePlaces (i:Int) (j:Int) 1=j-i:=by
 unfold Builtin.Slice.slicePlaces;have a:(1:Int)>0:=by omega
 simp only[a,if_true,Int.ediv_one];split<;>omega
def i5(p:IsPart v o)(h:Q o s):wpAny 'r' A (Builtin.Slice.slicePartIndex v) Q E s:=by
 cases p with
 | none=>exact slicePart_none h
 | int i t=>exact slicePart_int h
def oD{b:Addr}{f e:Value}{a d:Option Int}{n:Nat}{Q:Int×Int×Nat->Shared->Prop}(j:s.heap.IsSliceOf b f e .none)(pl:IsPart f a)(g:IsPart e d)(h:Q (((sIx n 0 a:Nat):Int),1,sIx n n d-sIx n 0 a) s):wpAny 'r' A (Builtin.Slice.sliceApplied (.ref b) (pure (n:Int))) Q E s:=by
 obtain⟨l,b,i,c⟩:=id j;unfold Builtin.Slice.sliceApplied Builtin.Slice.sliceFields;refine Ac (Ac (B0 b c (x:=f) rfl (Ac (B0 b c (x:=e) rfl (Ac (B0 b c (x:=.none) rfl (Aj ?_)))))));refine Ac (slicePart_none ?_);show wpAny _ _ (if ((1:Int) == 0)=true then _ else _) _ _ s;rw[if_neg 'z'];refine Ac (i5 pl (Ac (i5 g (Ac (Aj ?_)))));show wpAny _ _ (match Builtin.Slice.sliceAdjust a d 1 (n:Int) with | (a,d)=>pure (a,(1:Int),Builtin.Slice.slicePlaces a d 1)) _ _ s;rw[oB a d n];show wpAny _ _ (pure (((sIx n 0 a:Nat):Int),(1:Int),Builtin.Slice.slicePlaces ((sIx n 0 a:Nat):Int) ((sIx n n d:Nat):Int) 1)) _ _ s;rw[oC];exact Aj h
open H in
def oE(a:Array Value)(i k:Nat):((List.range k).filterMap λ(m:Nat)=>a[((i:Int)+(m:Int)*1).toNat]?).toArray=((a.toList.drop i).take k).toArray:=by
 have e:(λ(m:Nat)=>a[((i:Int)+(m:Int)*1).toNat]?)=λm=>a[i+m]?:=by
  funext m;have:((i:Int)+(m:Int)*1).toNat=i+m:=by omega
  rw[this]
 rw[e];have:=pick_run a i k;rw[List.filterMap_map] at this;have b:((λx=>a[x]?) ∘ λx=>i+x)=λm=>a[i+m]?:=rfl
 rw[b] at this;rw[this]
def getItem_tuple_cut{t g:Addr}{a:Array Value}{f b:Value}{c d:Option Int}{Q:Value->Shared->Prop}(e:IsTup s.heap t a)(l:s.heap.IsSliceOf g f b .none)(pl:IsPart f c)(o:IsPart b d)(n:¬(sIx a.size 0 c=0/\sIx a.size a.size d=a.size))(h:Q (.ref s.heap.objs.size) { s with heap:=s.heap.push { cls:=.type "tuple",data:=.seq ((a.toList.drop (sIx a.size 0 c)).take (sIx a.size a.size d-sIx a.size 0 c)).toArray } })(b:a.size<=sizeLine):wpAny 'r' A (getItem (.ref t) (.ref g)) Q E s:=by
 have b:sizeOk (.seq ((a.toList.drop (sIx a.size 0 c)).take (sIx a.size a.size d-sIx a.size 0 c)).toArray):=by
  show ((a.toList.drop (sIx a.size 0 c)).take (sIx a.size a.size d-sIx a.size 0 c)).toArray.size<=sizeLine;rw[AQ,B9,En,Dz];omega
 have f:sIx a.size a.size d<=a.size:=oz _ _ (Al _) d;obtain⟨q,i,f,p⟩:=id l;have j:s.TypeIs (.ref g) "slice":=⟨q,i,f⟩;unfold getItem;try with_reducible refine wpAny_holding ?_
 first | refine Ac (Aj ?_) | skip
 refine Ac (wpAny_sequenceKey e.typeIs 'z' ?_);refine Ac (wpAny_callSpecial?_slot (name:=Str.ofString "__getitem__") e.typeIs PyProof.Rows.slot_tuple_getitem (C3 PyProof.Rows.slot_tuple_getitem e.typeIs entry_tuple_getitem ?_ (args_tuple_getitem _ _)));show wpAny _ _ (Builtin.Tuple.tupleItemsOf (.ref t) >>= _) _ _ s;refine Ac (tupleItemsOf_ e ?_);refine Ac (wpAny_typeOf j ?_);rw[if_pos 'z'];refine Ac (oD l pl o ?_);have e:¬((((sIx a.size 0 c:Nat):Int) == 0&&(1:Int) == 1&&(sIx a.size a.size d-sIx a.size 0 c) == a.size)=true):=by
  intro q;rw[Bool.and_eq_true,Bool.and_eq_true] at q;have q1:((sIx a.size 0 c:Nat):Int)=0:=eq_of_beq q.1.1;have q2:sIx a.size a.size d-sIx a.size 0 c=a.size:=eq_of_beq q.2;exact n {'o','o'}
 show wpAny _ _ (if (((sIx a.size 0 c:Nat):Int) == 0&&(1:Int) == 1&&(sIx a.size a.size d-sIx a.size 0 c) == a.size)=true then _ else _) _ _ s;rw[if_neg e,oE];first
  | exact Ac (m:=Builtin.Tuple.tupleExact _) (wpAny_newObj_type (Aj {_,rfl,Aj h}) b)
  | exact Ac (m:=Builtin.Tuple.tupleExact _) (wpAny_newObj_type (Ac (Aj (Aj {_,rfl,Aj h}))) b)
  | exact Ac (Ac (m:=Builtin.Tuple.tupleExact _) (wpAny_newObj_type (Aj (Aj {_,rfl,Aj h})) b))
  | exact Ac (Ac (m:=Builtin.Tuple.tupleExact _) (wpAny_newObj_type (Aj {_,rfl,Aj h}) b))
end HT
namespace L2
abbrev TO:=St->Hp->(Option Int->Hp->Prop)->Prop
instance PO(X:Cx)(e:Option Expr)(t:TO):Prop:=
 ∀(A0:List 'p') (s:Shared) (Y:St) (H:Hp) (Q:Option Int->Hp->Prop),Ad X A0 Y H s->t Y H Q->
  wpAny 'e' X.A (evalPart e X.env) (λu s'=>∃o H',Ad X A0 Y H' s'/\IsPart u o/\Q o H') X.xe s
def Kb:TO:=λ_ H Q=>Q none H
def Kc(t:TE):TO:=λY H Q=>t Y H λx H1=>∃i,x=.int i/\Q (some i) H1
def oF{ns:List Int}:∀{a:List Value},Ao 'k' a->IntsAre a ns:=by
 induction ns with
 | nil=>intro a r;rw[Da] at r;cases r;exact .nil
 | cons n ns b=>
   intro a r;rw[Be] at r;cases r with
   | cons r1 r2=>
     obtain⟨t,e⟩:=r1;subst e;exact .cons n t (b r2)
section
variable{X:Cx}{e:Expr}{te:TE}{lo hi:Option Expr}{tl th:TO}{pos p2:Pos}
def i6:PO X none Kb:=by
 intro a s Y H Q I h;rw[evalPart_none];exact Aj {none,H,I,.none,h}
def i7(h:PE X e te):PO X (some e) (Kc te):=by
 intro a s Y H Q I b;rw[evalPart_some];refine ag (h a s Y H _ I b) λu a hI90=>?_
 obtain⟨x,H1,I1,r1,q1⟩:=hI90;obtain⟨i,rfl,q⟩:=q1;obtain⟨t,rfl⟩:=r1;exact{some i,H1,I1,.int i t,q}
instance SlR(X:Cx)(r:V->Option Int->Option Int->Hp->VK->Prop):Prop:=
 ∀(A0:List 'p') (s:Shared) (Y:St) (H:Hp) (x:V) (v vl vu:Value) (lo hi:Option Int) (sl:Addr) (Q:VK),Ad X A0 Y H s->An x v->s.heap.IsSliceOf sl vl vu .none->IsPart vl lo->IsPart vu hi->r x lo hi H Q->
  ∃T id,typeLookup (.type T) "__getitem__" = pure (some (.builtin id))/\s.TypeIs v T/\wpAny 'e' X.A (getItem v (.ref sl)) (EP X A0 Y Q) X.xe s
def SlR.or(h:SlR X r)(j:SlR X r'):SlR X (λx lo hi H Q=>r x lo hi H Q\/r' x lo hi H Q):=by
 intro c s Y H x v d a lo hi b Q I g i pl f q;rcases q with q | q
 ·exact h c s Y H x v d a lo hi b Q I g i pl f q
 ·exact j c s Y H x v d a lo hi b Q I g i pl f q
instance tSl(r:V->Option Int->Option Int->Hp->VK->Prop)(te:TE)(tl th:TO):TE:=λY H Q=>te Y H λx H1=>tl Y H1 λl H2=>th Y H2 λu H3=>r x l u H3 Q
def i8(i:SlR X r)(d:PE X e te)(a:PO X lo tl)(b:PO X hi th):PE X (.Subscript e (.Slice lo hi none p2) pos) (tSl r te tl th):=by
 intro c s Y H Q I h;refine Subscript_ (ag (d c s Y H _ I h) λv d hI91=>?_);obtain⟨x,H1,I1,r1,q1⟩:=hI91;refine wpAny_Slice (ag (a c d Y H1 _ I1 q1) λf a ⟨l,H2,I2,pl,q2⟩=>ag (b c a Y H2 _ I2 q2) λd a hI92=>?_);obtain⟨u,H3,I3,j,q3⟩:=hI92;rw[evalPart_none];refine Aj ?_;have I4:Ad X c Y H3 { a with heap:=a.heap.push { cls:=.type "slice",data:=.fields #[f,d,.none] } }:=I3.kept (t':=a.toks) λb g q=>AH _ q
 obtain⟨T,m,h,b,g⟩:=i c { a with heap:=a.heap.push { cls:=.type "slice",data:=.fields #[f,d,.none] } } Y H3 x v f d l u a.heap.objs.size Q I4 r1 (Heap.IsSliceOf.new ..) pl j q3;show wpAny 'e' X.A (subscriptTail e (.Slice lo hi none p2) v (.ref a.heap.objs.size)) (EP X c Y Q) X.xe { a with heap:=a.heap.push { cls:=.type "slice",data:=.fields #[f,d,.none] } };exact tail_any (ops:=[.ref a.heap.objs.size,v]) b h g (by with_unfolding_all rfl)
def D3(xs:List V)(lo hi:Option Int):List V:=(xs.drop (HT.sIx xs.length 0 lo)).take (HT.sIx xs.length xs.length hi-HT.sIx xs.length 0 lo)
def i9(a:List V)(lo hi:Option Int):(D3 a lo hi).length<=a.length:=by
 unfold D3;rw[B9,En];omega
def Kd(K:FG):V->Option Int->Option Int->Hp->VK->Prop:=λx lo hi H Q=>∃a xs,x=.ref a/\AN K H a xs/\
 ¬(HT.sIx xs.length 0 lo=0/\HT.sIx xs.length xs.length hi=xs.length)/\∀p,H p=none->Q (.ref p) (Af H p (.tup (D3 xs lo hi)))
def oG:SlR X (Kd X.K):=by
 intro b s Y H x v c a lo hi b Q I j l pl i h;obtain⟨a,c,rfl,m,g,q⟩:=h;cases j;obtain⟨b,r,d,f⟩:=I.tuple m;have a:b.toArray.size=c.length:=by rw[AQ];exact r.length.symm
 refine{"tuple",_,PyProof.Rows.slot_tuple_getitem.lookup,d.typeIs,?_};refine HT.getItem_tuple_cut d l pl i (by rw[a];exact g) ?_ (by rw[a];exact f);rw[a];refine{.ref s.heap.objs.size,_,I.laid (t':=s.toks) (o:=.tup (D3 c lo hi)) (λb a q=>AH _ q) (Al _) ?_,rfl,q _ (I.hok.fresh (Al _))};exact{Aw (i9 c lo hi) f,_,(r.drop (HT.sIx c.length 0 lo)).take (HT.sIx c.length c.length hi-HT.sIx c.length 0 lo),IsTup.new _ _,{_,AZ _ rfl,rfl}}
def GZ(K:FG):R2:=λx y H Q=>∃a b xs ys,x=.ref a/\y=.ref b/\AN K H a xs/\AN K H b ys/\xs≠[]/\xs.length+ys.length<=sizeLine/\
 (ys=[]->Q (.ref a) H)/\(ys≠[]->∀p,H p=none->Q (.ref p) (Af H p (.tup (xs++ys))))
theorem Ao.nil_iff(r:Ao a b):b=[]↔a=[]:=by
 cases r with
 | nil=>simp
 | cons _ _=>simp
def oH:AU X (binaryOp .Add) (GZ X.K):=by
 intro a s Y H x y v u Q I j l h;obtain⟨a,b,i,n,rfl,rfl,p,f,m,c,q1,q2⟩:=h;cases j;cases l;obtain⟨d,r1,g,_⟩:=I.tuple p;obtain⟨d,r2,p2,_⟩:=I.tuple f;refine HT.cat_tup g p2 (λz=>m (r1.nil_iff.mp z)) (λz=>{.ref a,H,I,rfl,q1 (r2.nil_iff.mp z)}) (λz=>?_) (by rw[<-r1.length,<-r2.length];exact c);refine{.ref s.heap.objs.size,_,I.laid (t':=s.toks) (o:=.tup (i++n)) (λb a q=>AH _ q) (Al _) ?_,rfl,q2 (λw=>z (r2.nil_iff.mpr w)) _ (I.hok.fresh (Al _))};exact{by rw[A4];exact c,_,r1.append r2,IsTup.new _ _,{_,AZ _ rfl,rfl}}
end
def B3(n:Nat)(i:Int):Option Nat:=if 0<=i then (if i<n then some i.toNat else none) else if -(n:Int)<=i then some (i+n).toNat else none
def BC{α:Type}(xs:List α)(i:Int):Option α:=(B3 xs.length i).bind λj=>xs[j]?
def ja{n:Nat}{i:Int}{j:Nat}(h:B3 n i=some j):seqIndex? i n=some j/\j<n/\-(n:Int)<=i/\i<n:=by
 unfold B3 at h;by_cases b:0<=i
 ·rw[if_pos b] at h
  by_cases a:i<n
  ·rw[if_pos a] at h
   have e:i.toNat=j:=Option.some.inj h;exact{by rw[seqIndex_of b a,e],'o','o',a}
  ·rw[if_neg a] at h;cases h
 ·rw[if_neg b] at h
  by_cases a:-(n:Int)<=i
  ·rw[if_pos a] at h
   have e:(i+n).toNat=j:=Option.some.inj h;exact{by rw[seqIndex_neg 'o' a,e],'o',a,'o'}
  ·rw[if_neg a] at h;cases h
def f6{α:Type}{a:List α}{i:Int}{v:α}(h:BC a i=some v):∃j,seqIndex? i a.length=some j/\a[j]?=some v/\j<a.length/\-(a.length:Int)<=i/\i<a.length:=by
 unfold BC at h;cases e:B3 a.length i with
 | none=>rw[e] at h;cases h
 | some j=>
   rw[e] at h;obtain⟨f,b,c,d⟩:=ja e;exact⟨j,f,h,b,c,d⟩
def f7{α:Type}{a:List α}{j:Nat}{v:α}(h:a[j]?=some v):BC a (j:Int)=some v:=by
 have b:j<a.length:=(Bd.mp h).1;have e:B3 a.length (j:Int)=some j:=by
  unfold B3;rw[if_pos 'o',if_pos 'o'];simp
 unfold BC;rw[e];exact h
def Gd(b:Expr):Prop:=∀o i,subscripted b false o i=operate [o,i] (getItem o i)
instance IxR(X:Cx)(r:R2):Prop:=
 ∀(value slice:Expr) (A0:List 'p') (s:Shared) (Y:St) (H:Hp) (x y:V) (v u:Value) (Q:VK),Ad X A0 Y H s->An x v->An y u->r x y H Q->
  subscripted slice false v u=operate [v,u] (getItem v u)->wpAny 'e' X.A (subscriptTail value slice v u) (EP X A0 Y Q) X.xe s
instance MtR(X:Cx)(id:String)(r:V->List V->Hp->VK->Prop):Prop:=
 ∀(A0:List 'p') (s:Shared) (Y:St) (H:Hp) (x:V) (xs:List V) (v:Value) (us:List Value) (Q:VK),Ad X A0 Y H s->An x v->Ao xs us->r x xs H Q->
  wpAny 'e' X.A (call (.builtin id) (v::us)) (EP X A0 Y Q) X.xe s
section
variable{X:Cx}{a b:Expr}{ta tb:TE}{pos:Pos}
def IxR.or(h:IxR X r)(j:IxR X r'):IxR X (λx y H Q=>r x y H Q\/r' x y H Q):=by
 intro d c i s Y H x y v u Q I e g q f;rcases q with q | q
 ·exact h d c i s Y H x y v u Q I e g q f
 ·exact j d c i s Y H x y v u Q I e g q f
def f8(f:IxR X r)(i:PE X a ta)(c:PE X b tb)(g:Gd b):PE X (.Subscript a b pos) (tOp r ta tb):=by
 intro e s Y H Q I h;exact Subscript_ (fW i c I h λv u d x y H2 I2 c h q=>f a b e d Y H2 x y v u Q I2 c h q (g _ _))
def Je(K:FG):R2:=λx y H Q=>∃p xs i v,x=.ref p/\y=.int i/\AT K H p xs/\BC xs i=some v/\Q v H
def Jf(K:FG):R2:=λx y H Q=>∃p xs i v,x=.ref p/\y=.int i/\AN K H p xs/\BC xs i=some v/\Q v H
def Jg:R2:=λx y H Q=>∃z i c,x=.str z/\y=.int i/\z.length<=sizeLine/\BC z.cps.toList i=some c/\Q (.str ⟨#[c]⟩) H
def jb:IxR X (Je X.K):=by
 intro d c l s Y H x y v u Q I c f h m;obtain⟨p,e,i,z,rfl,rfl,d,o,q⟩:=h;cases c;obtain⟨t,rfl⟩:=f;obtain⟨e,r,pl,g⟩:=I.list d;obtain⟨j,c,f,g,h,n⟩:=f6 o;obtain⟨w,g,d⟩:=r.get f;have o:=r.length;have p:=dM;have fin:EP X l Y Q w s:=⟨z,H,I,d,q⟩;by_cases f:0<=i
 ·have d:i.toNat=j:=by
   rw[seqIndex_of f n] at c;exact Option.some.inj c
  exact item_listR pl.isList f 'o' (by rw[d];simpa using g) fin m
 ·have d:(i+(e.toArray.size:Int)).toNat=j:=by
   rw[seqIndex_neg 'o' h] at c;rw[AQ,<-o];exact Option.some.inj c
  exact subscriptTail_builtinR (x:=w) pl.isList.typeIs slot_list_getitem.lookup
   (wpAny_getItem_list_neg (Q:=λr s'=>r=w/\EP X l Y Q r s') pl.isList 'o' (by rw[AQ]<;>omega) 'o' (by rw[d];simpa using g) ⟨rfl,fin⟩) m
def jc:IxR X (Jf X.K):=by
 intro d c e s Y H x y v u Q I f g h l;obtain⟨p,d,i,z,rfl,rfl,c,m,q⟩:=h;cases f;obtain⟨t,rfl⟩:=g;obtain⟨d,r,pl,h⟩:=I.tuple c;obtain⟨j,f,d,g,h,i⟩:=f6 m;obtain⟨w,g,c⟩:=r.get d;have h:=r.length;have i:=dM;have fin:EP X e Y Q w s:=⟨z,H,I,c,q⟩;exact subscriptTail_builtinR (x:=w) pl.typeIs slot_tuple_getitem.lookup
  (getItem_tuple (j:=j) (Q:=λr s'=>r=w/\EP X e Y Q r s') pl 'o' 'o' (by rw[AQ,<-h];exact f) (by simpa using g) ⟨rfl,fin⟩) l
def oI:IxR X Jg:=by
 intro e d f s Y H x y v u Q I d m h l;obtain⟨z,i,c,rfl,rfl,e,n,q⟩:=h;obtain⟨t,rfl⟩:=d;obtain⟨f,rfl⟩:=m;obtain⟨j,d,e,o,f,g⟩:=f6 n;have h:z.cps.toList.length=z.length:=by simp[Str.length]
 rw[h] at d f g;have j:=dM;exact tail_any (typeIs_str s z t) slot_str_getitem.lookup (getItem_str (c:=c) (by
  have g:decide (i < -(2 ^ 63:Int))=false:=aI 'o';have f:decide (i>=2 ^ 63)=false:=aI 'o';rw[g,f,Bool.or_false]) (by rw[d];simpa using e) {.str ⟨#[c]⟩,H,I.tok _,{_,rfl},q}) l
instance rIx(K:FG):R2:=λx y H Q=>Je K x y H Q\/Jf K x y H Q\/Jg x y H Q
def f9:IxR X (rIx X.K):=jb.or (jc.or oI)
def oJ(c:List Value)(n j:Nat)(u:Value):Obj.mapSeq (·.setIfInBounds j u) { cls:=.type "list",data:=.seq c.toArray n }={ cls:=.type "list",data:=.seq (c.set j u).toArray n }:=by
 simp[Obj.mapSeq]
def Ad.lst{c:List 'p'}{Y:St}{H:Hp}{s:Shared}{p:Addr}{d:List V}(I:Ad X c Y H s)(h:H p=some (.lst d)) :
 ∃(c:List Value) (n:Nat),Ao d c/\s.heap.get? p=some { cls:=.type "list",data:=.seq c.toArray n }/\d.length<=sizeLine:=by
 obtain⟨z,c,n,r,e⟩:=I.hok p _ h;exact⟨c,n,r,e,z⟩
def Ad.lstUpd{l:List 'p'}{Y:St}{H:Hp}{s:Shared}{p:Addr}{o i:List V}{d c:List Value}{n g:Nat}{f:Obj->Obj}(I:Ad X l Y H s)(h:H p=some (.lst o))(m:s.heap.get? p=some { cls:=.type "list",data:=.seq d.toArray n })(j:f { cls:=.type "list",data:=.seq d.toArray n }={ cls:=.type "list",data:=.seq c.toArray g })(r:Ao i c)(n:i.length<=sizeLine)(t:Nat) :
 Ad X l Y (Af H p (.lst i)) { s with heap:=s.heap.update p f,toks:=t }:=by
 have e:(s.heap.update p f).get? p=some { cls:=.type "list",data:=.seq c.toArray g }:=by
  rw[GV f m (by rw[j]<;>rfl),j]
 refine I.write (x:=p) (e:=p) (by rw[h];trivial) (.inl rfl) (λb u f q=>(F5 _ _ (Ne.symm f)).trans q) {_,e} ?_;exact⟨n,c,g,r,e⟩
def EY:V->V->V->Hp->(Hp->Prop)->Prop:=λo i v H Q=>∃p xs k j,o=.ref p/\i=.int k/\H p=some (.lst xs)/\B3 xs.length k=some j/\Q (Af H p (.lst (xs.set j v)))
def oK:IZ X EY:=by
 intro x s Y H o i v c e u Q I d g o h;obtain⟨p,z,k,j,rfl,rfl,e,l,q⟩:=h;cases d;obtain⟨t,rfl⟩:=g;obtain⟨c,n,r,f,y⟩:=I.lst e;obtain⟨d,h,m,i⟩:=ja l;have g:=r.length;have h:=dM;have l:Ad X x Y (Af H p (.lst (z.set j v))) { s with heap:=s.heap.update p (Obj.mapSeq (·.setIfInBounds j u)) }:=
  I.lstUpd e f (oJ c n j u) (r.set o j) (by rw[CI];exact y) s.toks
 by_cases h:0<=k
 ·have e:k.toNat=j:=by
   rw[seqIndex_of h i] at d;exact Option.some.inj d
  exact PySem.W.ki_setAt f h 'o' (by rw[AQ,<-g];exact i) (by rw[e];exact{_,l,q})
 ·have e:(k+(c.toArray.size:Int)).toNat=j:=by
   rw[seqIndex_neg 'o' m] at d;rw[AQ,<-g];exact Option.some.inj d
  exact PySem.W.ki_setBack f 'o' (by rw[AQ,<-g];exact m) 'o' (by rw[e];exact{_,l,q})
def oL(c d:Option Int)(n:Nat):(sliceBounds c d none n).1=((HT.sIx n 0 c:Nat):Int)/\(sliceBounds c d none n).2.1=((HT.sIx n n d:Nat):Int)/\(sliceBounds c d none n).2.2=1:=by
 refine{?_,?_,rfl}
 ·cases c with
  | none=>simp[sliceBounds,HT.sIx]
  | some i=>
    simp only[sliceBounds,HT.sIx,Option.getD_none,show (1:Int)>0 by decide,if_true];by_cases h:i<0
    ·simp only[h,if_true]<;>omega
    ·simp only[h,if_false]<;>omega
 ·cases d with
  | none=>simp[sliceBounds,HT.sIx]
  | some i=>
    simp only[sliceBounds,HT.sIx,Option.getD_none,show (1:Int)>0 by decide,if_true];by_cases h:i<0
    ·simp only[h,if_true]<;>omega
    ·simp only[h,if_false]<;>omega
def oM(c:List Value)(d e:Option Int):slicePick c.toArray d e none=((c.drop (HT.sIx c.length 0 d)).take (HT.sIx c.length c.length e-HT.sIx c.length 0 d)).toArray:=by
 obtain⟨g,f,h⟩:=oL d e c.toArray.size;unfold slicePick;rw[g,f,h];simp only[sliceRange_one,pick_run,AQ]<;>rfl
def Ke(K:FG):V->Option Int->Option Int->Hp->VK->Prop:=λx lo hi H Q=>∃a xs,x=.ref a/\AT K H a xs/\∀p,H p=none->Q (.ref p) (Af H p (.lst (D3 xs lo hi)))
def jd:SlR X (Ke X.K):=by
 intro d s Y H x v g c e f d Q I l m pl j h;obtain⟨a,c,rfl,n,q⟩:=h;cases l;obtain⟨d,r,g,i⟩:=I.list n;have d:=r.length;refine{"list",_,slot_list_getitem.lookup,g.isList.typeIs,?_};refine wpAny_getItem_list_slice g.isList m pl j .none 'd' ?_ (by rw[AQ]<;>omega);rw[oM,<-d];refine{.ref s.heap.objs.size,_,I.laid (t':=s.toks) (o:=.lst (D3 c e f)) (λb d q=>AH _ q) (Al _) ?_,rfl,q _ (I.hok.fresh (Al _))};exact{Aw (i9 c e f) i,_,0,(r.drop (HT.sIx c.length 0 e)).take (HT.sIx c.length c.length f-HT.sIx c.length 0 e),AZ _ rfl}
def eE:CA X (.builtin "len") (λg H Q=>∃p d,g=[.ref p]/\(AT X.K H p d\/AN X.K H p d)/\Q (.int d.length) H):=by
 intro c s Y H g e Q I r h;obtain⟨p,d,rfl,e,q⟩:=h;obtain⟨u,rfl,c⟩:=bE r;cases c;have f:=dM;rcases e with e | e
 ·obtain⟨f,r',pl,h⟩:=I.list e
  have c:=r'.length;exact Calls.call_len_list pl.isList (by simp only[AQ]<;>omega) {.int d.length,H,I.tok _,{s.toks+1,by rw[AQ,c]},q}
 ·obtain⟨f,r',pl,h⟩:=I.tuple e
  have c:=r'.length;exact len_tuple pl (by simp only[AQ]<;>omega) {.int d.length,H,I.tok _,{s.toks+1,by rw[AQ,c]},q}
def oN:CA X (.type "list") (λv H Q=>∃p g,v=[.ref p]/\(AT X.K H p g\/AN X.K H p g)/\∀l,H l=none->Q (.ref l) (Af H l (.lst g))):=by
 intro e s Y H v c Q I r h;obtain⟨p,g,rfl,i,q⟩:=h;obtain⟨u,rfl,d⟩:=bE r;cases d;have fin:∀(c:List Value),Ao g c->g.length<=sizeLine->∀(d:Heap) (f:Nat),(∀b o',s.heap.get? b=some o'->d.get? b=some o')->
  d.get? s.heap.objs.size=some { cls:=.type "list",dict:=none,data:=.seq c.toArray f,slots:=#[] }->EP X e Y Q (.ref s.heap.objs.size) { s with heap:=d }:=λc r' j d f kp e=>
  {.ref s.heap.objs.size,_,I.laid (t':=s.toks) kp (Al _) (show Bx X.prog X.w _ d _ (.lst g) from⟨j,c,f,r',e⟩),rfl,q _ (I.hok.fresh (Al _))}
 rcases i with i | i
 ·obtain⟨c,r',pl,j⟩:=I.list i
  have h:=r'.length;obtain⟨o,m,q,n,l⟩:=pl.isList;exact call_list_seq p (.inl rfl) m q l (λd f kp e=>fin c r' j d f kp e) (by simp only[AQ]<;>omega)
 ·obtain⟨c,r',pl,j⟩:=I.tuple i
  have h:=r'.length;obtain⟨o,m,q,n,l⟩:=pl;exact call_list_seq p (.inr rfl) m q l (λd f kp e=>fin c r' j d f kp e) (by simp only[AQ]<;>omega)
def we:CA X (.type "tuple") (λj H Q=>∃p d,j=[.ref p]/\((AT X.K H p d/\∀l,H l=none->Q (.ref l) (Af H l (.tup d)))\/(AN X.K H p d/\Q (.ref p) H))):=by
 intro i s Y H j c Q I r h;obtain⟨p,d,rfl,h⟩:=h;obtain⟨u,rfl,c⟩:=bE r;cases c;rcases h with⟨g,q⟩ | ⟨g,q⟩
 ·obtain⟨c,r',pl,h⟩:=I.list g
  have e:=r'.length;refine call_tuple_list pl.isList (λf kp=>?_) (by simp only[AQ]<;>omega);have I1:Ad X i Y H { s with heap:=f }:=I.kept (t':=s.toks) kp;have I2:Ad X i Y (Af H f.objs.size (.tup d)) { s with heap:=f.push { cls:=.type "tuple",data:=.seq c.toArray } }:=
   I1.laid (t':=s.toks) (λb o e=>AH _ e) (Al _) (show Bx X.prog X.w _ _ _ (.tup d) from{h,c,r',IsTup.new _ _,{_,AZ _ rfl,rfl}})
  exact{.ref f.objs.size,_,I2,rfl,q _ (I1.hok.fresh (Al _))}
 ·obtain⟨c,r',pl,h⟩:=I.tuple g
  exact call_tuple_same pl {.ref p,H,I,rfl,q}
instance tyV(K:FG)(T:String)(x:V)(H:Hp):Prop:=match x with
 | .str _=>T = "str"
 | .int _=>T = "int"
 | .ref p=>(T = "list"/\∃xs,AT K H p xs)\/(T = "tuple"/\∃o,K.lookup p=some o/\o.cls=.type "tuple"/\o.dict=none)\/
  (T = "dict"/\((∃kvs,H p=some (.dK kvs))\/∃kvs,H p=some (.dT kvs)))\/(T = "set"/\∃S n,H p=some (.set S n))
 | _=>False
def je{T:String}(I:Ad X A0 Y H s)(r:An x v)(f:tyV X.K T x H) :
 s.TypeIs v T/\∀a,v=.ref a->∃c,s.heap.get? a=some c/\c.dict=none:=by
 cases x with
 | str z=>
   obtain⟨t,rfl⟩:=r;cases (show T = "str" from f);exact{typeIs_str s z t,λ_ e=>nomatch e}
 | int i=>
   obtain⟨t,rfl⟩:=r;cases (show T = "int" from f);exact{typeIs_int s i t,λ_ e=>nomatch e}
 | ref p=>
   cases r;rcases f with⟨rfl,g,c⟩ | ⟨rfl,o,d,i,g⟩ | ⟨rfl,d⟩ | ⟨rfl,S,n,d⟩
   ·obtain⟨h,_,pl,_⟩:=I.list c
    refine{pl.isList.typeIs,λa e=>?_};cases e;obtain⟨o,n,e,c,g,_⟩:=pl;exact⟨o,e,g⟩
   ·refine{{o,I.kIn p o d,i},λa e=>?_}
    cases e;exact{o,I.kIn _ o d,g}
   ·have z:∃o,s.heap.get? p=some o/\o.ExactDict:=by
     rcases d with⟨c,d⟩ | ⟨c,d⟩
     ·obtain⟨_,_,_,_,o,_,_,e,c,_⟩:=I.hok p _ d
      exact⟨o,e,c⟩
     ·obtain⟨_,_,_,_,o,_,_,e,c,_⟩:=I.hok p _ d
      exact⟨o,e,c⟩
    obtain⟨o,e,c⟩:=z;refine{⟨o,e,c.1⟩,λa g=>?_};cases g;exact⟨o,e,c.2.1⟩
   ·obtain⟨o,_,_,_,e,c,_⟩:=I.hok p _ d
    refine{⟨o,e,c.1⟩,λa g=>?_};cases g;exact⟨o,e,c.2.1⟩
 | _=>exact False.elim f
def Kf(K:FG)(T:String)(r:V->List V->Hp->VK->Prop)(to:TE):TE:=λY H Q=>to Y H λx H1=>tyV K T x H1/\r x [] H1 Q
instance tBM(K:FG)(T:String)(r:V->List V->Hp->VK->Prop)(to:TE)(t:TA):TE:=λY H Q=>to Y H λx H1=>tyV K T x H1/\t Y H1 λxs H2=>r x xs H2 Q
variable{name:Str}{T id:String}
def oO(l:PlainAttrs T)(e:Slot T name id)(f:typeOf (.builtin id)=pure (.type "method_descriptor"))(j:MtR X id r)(i:PE X o to)(d:autoParam (attributeBase o name X.env (eval o X.env)=eval o X.env) uR)(c:autoParam ((apos.endLine == cpos.line)=true) uR):PE X (.Call (.Attribute o name apos) [] [] cpos) (Kf X.K T r to):=by
 intro g s Y H Q I h;refine wpAny_Call_method0_late d c (ag (i g s Y H _ I h) λv d hI93=>?_);obtain⟨x,H1,I1,r1,h,q1⟩:=hI93;obtain⟨i,c⟩:=je I1 r1 h;exact{T,id,l,e,f,i,c,Calls.callWith_builtin rfl (PySem.evalArgs_none (j g d Y H1 x [] v [] Q I1 r1 .nil q1))}
def cw(q:PlainAttrs T)(g:Slot T name id)(j:typeOf (.builtin id)=pure (.type "method_descriptor"))(n:MtR X id r)(l:PE X o to)(p:PA X (e::es) t)(d:autoParam (attributeBase o name X.env (eval o X.env)=eval o X.env) uR)(i:autoParam (((backTo cpos (starEach (e::es) X.env)).all (λx=>!x.1)&&(backToKw cpos (keywordEach [] X.env)).all (λx=>x.1.isSome)
  && decide ((e::es).length+([]:List Keyword).length+(if ([]:List Keyword).isEmpty then 0 else 1)<30))=true) uR)(f:autoParam ((apos.endLine == cpos.line)=true) uR)(m:autoParam 's' uR)(c:autoParam ((backTo cpos (starEach es X.env)).any (·.1)=false) uR) :
 PE X (.Call (.Attribute o name apos) (e::es) [] cpos) (tBM X.K T r to t):=by
 intro e s Y H Q I h;refine wpAny_Call_method_late d i f rfl (ag (l e s Y H _ I h) λv i hI94=>?_);obtain⟨x,H1,I1,r1,d,q1⟩:=hI94;obtain⟨h,f⟩:=je I1 r1 d;refine{T,id,q,g,j,h,f,?_};have d:=p cpos e i Y H1 _ I1 q1;rw[m] at d ⊢;refine Calls.callWith_builtin (by show (false||(backTo cpos (starEach es X.env)).any (·.1))=false;rw[c]<;>rfl) (Calls.evalArgs_plain ?_);exact ag d λg f ⟨c,H2,I2,r2,q2⟩=>n e f Y H2 x c v g Q I2 r1 r2 q2
end
instance MtM(X:Cx)(id:String)(r:V->List V->Hp->VK->Prop):Prop:=
 ∀(A0:List 'p') (s:Shared) (Y:St) (H:Hp) (x:V) (xs:List V) (v:Value) (us:List Value) (Q:VK),Ad X A0 Y H s->An x v->Ao xs us->r x xs H Q->
  wpAny 'e' X.A (call (.builtin id) (v::us)) (EP X A0 Y Q) X.xe s
theorem Ao.unc{x:V}{b:List V}{a:List Value}(h:Ao (x::b) a):∃u r,a=u::r/\An x u/\Ao b r:=by
 cases h with
 | cons r t=>exact{_,_,rfl,r,t}
def Ao.unn{a:List Value}(h:Ao [] a):a=[]:=by
 cases h;rfl
def Ao.one{x:V}{c:List Value}(h:Ao [x] c):∃u,c=[u]/\An x u:=by
 obtain⟨u,r,e,a,b⟩:=h.unc;rw[b.unn] at e;exact⟨u,e,a⟩
theorem Ao.zero:∀{a:List Value},Ao [] a->a=[]
 | _,.nil=>rfl
theorem Ao.dropLast(h:Ao b c):Ao b.dropLast c.dropLast:=by
 induction h with
 | nil=>exact .nil
 | cons r t a=>
   cases t with
   | nil=>exact .nil
   | cons q d=>exact .cons r a
theorem Ao.eraseIdx:∀{b:List V} {a:List Value} (i:Nat),Ao b a->Ao (b.eraseIdx i) (a.eraseIdx i)
 | _,_,_,.nil=>.nil
 | _,_,0,.cons _ t=>t
 | _,_,i+1,.cons r t=>.cons r (Ao.eraseIdx i t)
theorem Ao.rep(h:Ao a b):∀k:Nat,Ao (List.replicate k a).flatten (List.replicate k b).flatten
 | 0=>.nil
 | k+1=>by
   rw[Dj,Dj,FF,FF];exact Ao.append h (Ao.rep h k)
def oP{α:Type}(l:List α):l.eraseIdx (l.length-1)=l.dropLast:=by
 induction l with
 | nil=>rfl
 | cons a r c=>
   cases r with
   | nil=>rfl
   | cons b r=>
     have e:(a::b::r).length-1=((b::r).length-1)+1:=by
      have d:(a::b::r).length=r.length+2:=rfl;have a:(b::r).length=r.length+1:=rfl;omega
     rw[e,List.eraseIdx_cons_succ,c]
     all_goals rfl
theorem dN{α:Type}:∀(l:List α) (i:Nat),(l.eraseIdx i).length<=l.length
 | [],_=>Al _
 | _::_,0=>Nat.le_succ _
 | _::r,i+1=>Em (dN r i)
theorem jf(a:List Value):∀(k:Nat) (b:List Value),
 List.foldl (λc d=>c++d) b.toArray (List.replicate k a.toArray)=(b++(List.replicate k a).flatten).toArray
 | 0,b=>by simp
 | k+1,b=>by
   have e:b.toArray++a.toArray=(b++a).toArray:=by simp
   have c:(b++a)++(List.replicate k a).flatten=b++(List.replicate (k+1) a).flatten:=by
    rw[Dj,FF,Cd]
   rw[<-c,<-jf a k (b++a),<-e,Dj,List.foldl_cons]
def Ad.lset{a its':List Value}{n:Nat}{f:Array Value->Array Value}{g:Nat}(I:Ad X A0 Y H s)(d:H l=some (.lst j))(e:s.heap.get? l=some { cls:=.type "list",data:=.seq a.toArray n })(c:f a.toArray=its'.toArray)(h:Ao b its')(i:b.length<=sizeLine) :
 Ad X A0 Y (Af H l (.lst b)) { s with heap:=s.heap.update l (Obj.mapSeq f),toks:=g }:=by
 have q:=PySem.IsL.update e f;rw[c] at q;refine I.write (x:=l) (e:=l) (by rw[d];exact trivial) (.inl rfl) (λg u d c=>(F5 s.heap (Obj.mapSeq f) (Ne.symm d)).trans c) {_,q} ?_;exact{i,its',_,h,q}
def Ad.lnew{t':Nat}(I:Ad X A0 Y H s)(a:Ao ys its)(b:ys.length<=sizeLine) :
 Ad X A0 Y (Af H s.heap.objs.size (.lst ys)) { s with heap:=s.heap.push { cls:=.type "list",data:=.seq its.toArray },toks:=t' }:=
 I.laid (λ_ _ q=>AH _ q) (Al _) {b,its,0,a,AZ _ rfl}
def Ad.fresh(I:Ad X A0 Y H s):H s.heap.objs.size=none:=I.hok.fresh (Al _)
def Ad.lstM(I:Ad X A0 Y H s)(c:H l=some (.lst b)):b.length<=sizeLine/\∃(a:List Value) (n:Nat),Ao b a/\b.length=a.length/\s.heap.get? l=some { cls:=.type "list",data:=.seq a.toArray n }:=by
 obtain⟨z,a,n,r,e⟩:=I.hok l _ c;exact⟨z,a,n,r,r.length,e⟩
def jg{n:Nat}(h:n<=sizeLine):Builtin.List.listTooLong n=false:=by
 unfold Builtin.List.listTooLong;exact aI 'o'
def Jh:V->List V->Hp->VK->Prop:=λx vs H Q=>∃l xs y,x=.ref l/\vs=[y]/\H l=some (.lst xs)/\xs.length<sizeLine/\Q .non (Af H l (.lst (xs++[y])))
def ge:MtM X "list.append" Jh:=by
 intro a s Y H x b v d Q I a c h;obtain⟨l,e,y,rfl,rfl,b,d,q⟩:=h;cases a;obtain⟨u,rfl,d⟩:=c.one;obtain⟨z,a,n,r,f,e⟩:=I.lstM b;refine call_meets F.slot_list_append {_,e,rfl} F.entry_list_append (F.args_list_append_2 _ _) (PySem.list_append l a.toArray n u (by rw[AQ];omega)) {e,?_};refine{.non,_,I.lset (its':=a++[u]) b e 'd' (r.append (.cons d .nil)) ?_,rfl,q};rw[A4,List.length_singleton];omega
def Ji:V->List V->Hp->VK->Prop:=λx vs H Q=>∃l b xs zs,x=.ref l/\vs=[.ref b]/\H l=some (.lst xs)/\H b=some (.lst zs)/\xs.length+zs.length<=sizeLine/\Q .non (Af H l (.lst (xs++zs)))
def wf:MtM X "list.extend" Ji:=by
 intro a s Y H x b v d Q I c a h;obtain⟨l,b,f,d,rfl,rfl,g,i,e,q⟩:=h;cases c;obtain⟨u,rfl,d⟩:=a.one;cases d;obtain⟨z,c,n,r,a,e⟩:=I.lstM g;obtain⟨f,a,j,r2,d,h⟩:=I.lstM i;have f:c.toArray.size+a.toArray.size<=sizeLine:=by rw[AQ,AQ];omega
 have d:¬(!c.toArray.isEmpty&&Builtin.List.listTooLong (c.toArray.size+a.toArray.size))=true:=by
  rw[jg f,Bool.and_false];exact BQ
 refine call_meets F.slot_list_extend {_,e,rfl} F.entry_list_extend (F.args_list_extend_2 _ _)
  (AutoSeq1.list_extend_list_list_0 l c.toArray n b a.toArray j d (by rw[AQ];omega) 'o') {e,h,?_}
 refine{.non,_,I.lset (its':=c++a) g e 'd' (r.append r2) ?_,rfl,q};rw[A4];omega
def Kg:V->List V->Hp->VK->Prop:=λx vs H Q=>∃l xs y,x=.ref l/\vs=[]/\H l=some (.lst xs)/\xs[xs.length-1]?=some y/\Q y (Af H l (.lst xs.dropLast))
def oQ:MtM X "list.pop" Kg:=by
 intro a s Y H x b v c Q I a d h;obtain⟨l,b,y,rfl,rfl,c,f,q⟩:=h;cases a;have b:=d.zero;subst b;obtain⟨z,a,n,r,d,e⟩:=I.lstM c;obtain⟨u,g,h⟩:=r.get f;have b:a.toArray[a.toArray.size-1]?=some u:=by
  show a.toArray[a.length-1]?=some u;rw[<-FC,<-d];exact g
 refine call_meets F.slot_list_pop {_,e,rfl} F.entry_list_pop (F.args_list_pop_1 _) (MeetsSeq.list_pop_last l a.toArray n u b (by rw[AQ];omega)) {e,?_};refine{y,_,I.lset (its':=a.dropLast) c e ?_ r.dropLast ?_,h,q}
 ·show a.toArray.eraseIdxIfInBounds (a.toArray.size-1)=a.dropLast.toArray
  rw[AQ,GN,oP]
 ·rw[List.length_dropLast]
  omega
def Jj:V->List V->Hp->VK->Prop:=λx vs H Q=>∃l xs i k y,x=.ref l/\vs=[.int i]/\H l=some (.lst xs)/\-(2 ^ 63)<=i/\i<2 ^ 63/\seqIndex? i xs.length=some k/\xs[k]?=some y/\Q y (Af H l (.lst (xs.eraseIdx k)))
def jh:MtM X "list.pop" Jj:=by
 intro a s Y H x c v d Q I b a h;obtain⟨l,o,i,k,y,rfl,rfl,c,g,d,f,m,q⟩:=h;cases b;obtain⟨u,rfl,p⟩:=a.one;obtain⟨t,rfl⟩:=p;obtain⟨z,a,n,r,j,e⟩:=I.lstM c;obtain⟨w,h,b⟩:=r.get m;refine call_meets F.slot_list_pop {_,e,rfl} F.entry_list_pop (F.args_list_pop_2 _ _)
  (MeetsSeq.list_pop_at l a.toArray n i t k w (fitsIndex_both g d) (by rw[AQ,<-j];exact f) (by rw[<-FC];exact h) (by rw[AQ];omega)) {e,?_}
 refine{y,_,I.lset (its':=a.eraseIdx k) c e ?_ (r.eraseIdx k) ?_,b,q}
 ·show a.toArray.eraseIdxIfInBounds k=(a.eraseIdx k).toArray
  rw[GN]
 ·have:=dN o k
  omega
def G0:R2:=λx y H Q=>∃l b xs zs,x=.ref l/\y=.ref b/\H l=some (.lst xs)/\H b=some (.lst zs)/\xs.length+zs.length<=sizeLine/\∀p,H p=none->Q (.ref p) (Af H p (.lst (xs++zs)))
def oR:AU X (binaryOp .Add) G0:=by
 intro a s Y H x y v u Q I a c h;obtain⟨l,b,i,d,rfl,rfl,f,g,e,q⟩:=h;cases a;cases c;obtain⟨z,b,n,r,a,e⟩:=I.lstM f;obtain⟨h,a,i,r2,c,d⟩:=I.lstM g;refine PySem.P.add_list e d ?_ (by rw[AQ,AQ];omega);have c:b.toArray++a.toArray=(b++a).toArray:=by simp
 rw[c];exact{.ref _,_,I.lnew (t':=s.toks) (r.append r2) (by rw[A4];omega),rfl,q _ I.fresh}
def G4:R2:=λx y H Q=>∃l k xs,x=.ref l/\y=.int k/\H l=some (.lst xs)/\-(2 ^ 63)<=k/\k<2 ^ 63/\xs.length*k.toNat<=sizeLine/\
 ∀p,H p=none->Q (.ref p) (Af H p (.lst (List.replicate k.toNat xs).flatten))
def oS{α:Type}(a:List α)(k:Nat):(List.replicate k a).flatten.length=k*a.length:=by
 induction k with
 | zero=>simp
 | succ k b=>rw[Dj,FF,A4,b,Nat.succ_mul,CK]
def oU:AU X (binaryOp .Mult) G4:=by
 intro a s Y H x y v u Q I a g h;obtain⟨l,k,b,rfl,rfl,d,j,f,i,q⟩:=h;cases a;obtain⟨t,rfl⟩:=g;obtain⟨z,b,n,r,c,e⟩:=I.lstM d;have a:b.toArray.size*k.toNat<=sizeLine:=by rw[AQ,<-c];exact i
 have d:¬b.toArray.size*k.toNat>(2 ^ 63-1) / 8:=by
  have:(sizeLine:Nat)<=(2 ^ 63-1) / 8:=by decide
  omega
 have g:¬(!Builtin.List.listFitsIndex k)=true:=by
  rw[fitsIndex_both j f];exact BQ
 have c:¬Builtin.List.listTooLong (b.toArray.size*k.toNat)=true:=by
  rw[jg a];exact BQ
 have f:List.foldl (λh a=>h++a) #[] (List.replicate (if b.toArray.isEmpty=true then 0 else k.toNat) b.toArray)=(List.replicate k.toNat b).flatten.toArray:=by
  have j:∀m:Nat,List.foldl (λh a=>h++a) #[] (List.replicate m b.toArray)=(List.replicate m b).flatten.toArray:=λm=>by
   have:=jf b m [];rw[Fm] at this;exact this
  rw[j];cases b with
  | nil=>simp
  | cons a r'=>rw[if_neg 'd']
 refine wpAny_binaryOp_repeat_ref (T:="list") (U:="int") 'z' {_,e,rfl} (λs'=>typeIs_int s' k t) noFill_list_mul F.fills_int_mul F.slot_int_rmul repeat_list F.slot_int_index.lookup
  (call_meets F.slot_int_rmul (typeIs_int s k t) F.entry_int_rmul (F.args_int_rmul_2 _ _) (int___rmul___int_list k t l b.toArray n)
   {e,rfl,{_,e,rfl},call_meets F.slot_list_mul {_,e,rfl} F.entry_list_mul (F.args_list_mul_2 _ _) (AutoListH.list___mul___list_int_3 l b.toArray n k t g d c) {e,?_}})
 rw[f];exact{.ref _,_,I.lnew (t':=s.toks) (r.rep k.toNat) (by rw[oS,Nat.mul_comm];exact i),rfl,q _ I.fresh}
end L2
namespace Att
open PySem PySem.W PySem.Calls PyProof.Rows
def oV:∀(ns:List Int) (c:List Value),WellAll P h c (ns.map WData.int)->IntsAre c ns:=by
 intro ns;induction ns with
 | nil=>
   intro c w;rw[Da] at w;cases w;exact .nil
 | cons n ns d=>
   intro c w;rw[Be] at w;cases w with
   | cons a b=>
     cases a;exact .cons _ _ (d _ b)
def oW{l:OpenLaw}{n:Nat}(z:l.most=some n){P:Params}{h:Heap}{args:List WData}{b:List Value}(c:l.row.toRowW.claim.pre args=true)(j:WellAll P h b args) :
 ∃a o ns,b=[Value.ref a]/\args=[WData.list (ns.map WData.int)]/\h.get? a=some { cls:=.type "list",data:=.seq o.toArray }/\IntsAre o ns/\ns.length<=n:=by
 have m:WShape.hasAll [] args [.list .int]=true:=(pre_splitW c).1;have p:l.pre.holds [] { args:=args }=true:=(pre_splitW c).2;obtain⟨d,r,rfl,v,u⟩:=hasAllW_cons m;obtain rfl:=hasAllW_nil u;obtain⟨C,rfl,y⟩:=hasW_list v;obtain⟨ns,rfl⟩:=items_int y;have e:ns.length<=n:=by
  unfold OpenLaw.pre at p;have g:(WTm.not (.lt (.lit (.int (n:Int))) (.len (.arg 0)))).holds [] { args:=[.list (ns.map .int)] }=true:=by
   have g:=(holds_andW p).1;rw[z] at g;exact g
  have i:=condW_of g (w_not (w_lt w_lit (w_len_list (w_arg rfl))));rw[Ai] at i;refine FH λq=>?_
  have B:(n:Int)<((ns.length:Nat):Int):=by omega
  first
   | (rw[aV B] at i;exact absurd i 'z')
   | (simp at i;omega)
 cases j with
 | cons s A=>
   cases A;cases s with
   | list x f=>exact{_,_,ns,rfl,rfl,x,oV ns _ f,e}
def oX(l:OpenLaw)(args:List WData):l.row.toRowW.claim.post args (.bool true) args=true:=
 postW_of (r:=l.row.toRowW) (X:=(true == true))
  (show WShape.has [] (.bool true) .bool=true by first | rfl | decide | simp[WShape.has,WShape.arms,WShape.armsAll])
  (show (WTm.eq .res (.lit (.bool true))).value [] { args:=args,res:=some (.bool true),after:=args }=some (.bool (true == true)) from w_eq_bool (w_res rfl) w_lit) rfl
def attach_call{l:OpenLaw}{n:Nat}{q:Program}{e:List Str}{j:(Str->Option Value)->Heap->Prop}{f:World->Heap->Prop}{d:DefRec}(J:l.most=some n)(x:d.params.defaults=[])(call:∀(w:World) (c b:Shared) (p s:Str->Option Value) (i:Addr) (o:Obj) (u m g:Value) (a:Addr) (h:List Value) (ns:List Int),
  Ground q e [] j w c p s b.heap->f w b.heap->
  b.heap.get? i=some o->o.data=.func (docDef d.name d.params d.body d.scope u m g)->b.heap.CodeRec m d.name->p d.name=some (.ref i)->
  b.heap.get? a=some { cls:=.type "list",data:=.seq h.toArray }->IntsAre h ns->ns.length<=n->b.gens=#[]->
  codeAny (model l.prog w) callerA (.call (.ref i) {[.ref a],[]}) (λr s'=>r=.ok (.ret (.bool true))/\OldK b.heap s'.heap/\s'.os=b.os/\AllBare s'.gens) b) :
 WalkO q e j f l.row.toRowW d [] (λf h=>PySem.call f h):=by
 intro w c b p s G q i o u m g C kV A F n d y I e f L j z E v B;obtain rfl:C=.none:=Dflts.none d x;obtain rfl:kV=.none:=Dflts.noKw d;obtain⟨a,h,ns,rfl,rfl,e,d,f⟩:=oW J j v;refine enter_call (codeAny_mono (call w c b p s i o u m g a h ns G q A (fd_plain F) n y e d f I) λr s' g=>?_);obtain⟨rfl,a,c,b⟩:=g;exact{.inl {.bool true,.bool true,[],rfl,λ_=>rfl,.bool true,oX l _,λ_=>{List.Pairwise.nil,λ_ d=>(nomatch d)}},a,c,b}
section
variable{prog:Program}{w:World}{A:Around}{E:Value->Shared->Prop}{s:Shared}{K:Frag}
end
end Att
namespace L2
theorem ji:∀{a:List Value} {ns:List Int},IntsAre a ns->Ao 'k' a
 | _,_,.nil=>.nil
 | _,_,.cons n t h=>.cons ⟨t,rfl⟩ (ji h)
def HJ(H:Hp):Prop:=∀b,H b=none\/∃o xs,H b=some (.frz o (.lst xs))
open H in
def oY{P:Program}{w:World}{K:FG}{A C:Str->Option Value}{h:Er}{k:Nat}{d a:Addr}{e:FuncData}{x:Str}{f:Sp}{c:Shared}{l:List Value}{ns:List Int}(J:K.In c.heap)(y:c.heap.Ns mainGlobals A)(g:c.heap.Ns builtinsNs C)(E:∀x:Str,x≠"__name__"->C x=bootBuiltins x)(z:c.heap.NoLimit)(R:c.gens=#[])(B:c.heap.get? a=some { cls:=.type "list",data:=.seq l.toArray })(N:IntsAre l ns)(M:ns.length<=sizeLine)(U:Bc k callerA)(F:∀b:Heap,K.In b->b.Ns mainGlobals A->Cn P w K A b h k d e [x] f)(j:∀(s:Shared) (u:Value),BindsTo s e {[u],[]} [(x,u)])(I:∀H:Hp,HJ H->AT K H a 'k'->f [.ref a] H (λv _=>v=.bl true) λ_ _ _=>False)(x:∀H e s',h [] H c (λ_ _ _=>False) e s'->False) :
 codeAny (model P w) callerA (.call (.ref d) {[.ref a],[]}) (λr s'=>r=.ok (.ret (.bool true))/\OldK c.heap s'.heap/\s'.os=c.os/\AllBare s'.gens) c:=by
 have Q:=ji N;have p:=N.length
 -- from an abstract heap in which nothing but the script may be tracked
 have i:∀H:Hp,HJ H->AT K H a 'k'->Bm P w H c.heap->(∀b,H b≠none->b=a)->(H a≠none->K.lookup a=none)->
  codeAny (model P w) callerA (.call (.ref d) ⟨[.ref a],[]⟩) (λr s'=>r=.ok (.ret (.bool true))/\OldK c.heap s'.heap/\s'.os=c.os/\AllBare s'.gens) c:=by
  intro H L W s O T;have f:∀{b:Addr} {o:Obj},c.heap.get? b=some o->H b=none->(EF c.heap H).get? b=some o:=λe n=>nH e n
  have G:∀{b:Addr} {o:Obj} {es:Array DictEntry} {n:Nat},c.heap.get? b=some o->o.data=.dict es n->H b=none:=λ{b o es n} e d=>by
   cases q:H b with
   | none=>rfl
   | some u=>
     have e':b=a:=O b (by rw[q];simp);subst e';rw[B] at e;cases e;have d':Data.seq l.toArray _=Data.dict es n:=d;cases d'
  have h:∀{b:Addr} {m:Str->Option Value},c.heap.Ns b m->(EF c.heap H).Ns b m:=λ{b m} ⟨o,es,n,e,d,r⟩=>{o,es,n,f e (G e d),d,r}
  have m:K.In (EF c.heap H):=λb o e=>f (J b o e) (by
   cases q:H b with
   | none=>rfl
   | some u=>
     have e':b=a:=O b (by rw[q];simp);subst e';rw[T (by rw[q];simp)] at e;cases e)
  have n:Mod K A (EF c.heap H):={m,h y,{C,h g,E},let ⟨G,O,f⟩:=z;{G,h O,f}};have d:GY P w K A (EF c.heap H) callerA [] c H:={rfl,n,λb o e=>nI e,BX (nG _ _),trivial,λb g=>absurd (show b∈([]:List Addr) from g) 'd',s,.of_eq R};refine codeAny_mono ((F _ m (h y)).run callerA [] c H {[.ref a],[]} [.ref a] [.ref a] _ _ U d (j c (.ref a)) (.cons rfl .nil) (I H L W)) λr s' h=>?_
  cases r with
  | error e=>exact(x H e s' h).elim
  | ok c=>
    cases c with
    | next=>exact False.elim h
    | brk=>exact False.elim h
    | cont=>exact False.elim h
    | ret u=>
      obtain⟨v,j,m,c,f,d,r',q⟩:=h;have j:v=.bl true:=q;subst j;obtain rfl:u=Value.bool true:=r';refine{rfl,OldK.of_keep λb o e=>?_,m,c};cases q:H b with
      | none=>exact f.keep b o e q (by intro z;exact absurd (show b∈([]:List Addr) from z) 'd') 'd'
      | some u=>
        rcases L b with z | ⟨c,h,z⟩
        ·rw[q] at z;cases z
        ·have j:=f.frzs b c _ z
         obtain⟨f,_⟩:=s b _ z;obtain⟨h,_⟩:=d b _ j;rw[e] at f;cases f;exact h
 cases c:K.lookup a with
 | some o=>
   -- the script is one of the module's own objects
   have e:=J a o c;rw[B] at e;cases e;refine i (λ_=>none) (λ_=>.inl rfl) (.inr {_,l.toArray,_,c,rfl,rfl,rfl,by rw[AQ,p];exact M,by simpa using Q}) (λb u z=>by have z':(none:Option HO)=some u:=z;cases z') (λb z=>absurd rfl z) λz=>absurd rfl z
 | none=>
   refine i (λb=>if b=a then some (.frz { cls:=.type "list",data:=.seq l.toArray } (.lst 'k')) else none) (λb=>?_) (.inl (.inr {{ cls:=.type "list",data:=.seq l.toArray },if_pos rfl})) (λb u z=>?_) (λb z=>?_) λ_=>c
   ·by_cases g:b=a
    ·exact .inr {_,_,if_pos g}
    ·exact .inl (if_neg g)
   ·by_cases g:b=a
    ·have z':=(if_pos g).symm.trans z
     cases z';subst g;exact{B,by rw[Ai];exact M,l,_,Q,B}
    ·have z':=(if_neg g).symm.trans z
     cases z'
   ·by_cases g:b=a
    ·exact g
    ·exact absurd (if_neg g) z
def walk_of{l:PySem.W.OpenLaw}{n k:Nat}{q:Program}{b:List Str}{o:(Str->Option Value)->Heap->Prop}{f:World->Heap->Prop}{d:DefRec}{K:Params->FG}{CX:World->Er}{sp:World->Sp}{x:Str}(r:l.most=some n)(p:n<=sizeLine)(c:d.params.defaults=[])(z:Bc k callerA)(y:∀(w:World) (h:Heap),f w h->(K w.params).In h)(F:∀(w:World) (g:Str->Option Value) (i:Addr) (h:Heap),(K w.params).In h->h.Ns mainGlobals g->g d.name=some (.ref i)->
  ∃m:FuncData,(∀(s:Shared) (u:Value),BindsTo s m {[u],[]} [(x,u)])/\
   ∀a:Heap,(K w.params).In a->a.Ns mainGlobals g->Cn l.prog w (K w.params) g a (CX w) k i m [x] (sp w))(j:∀(w:World) (H:Hp) (a:Addr) (ns:List Int),ns.length<=n->HJ H->AT (K w.params) H a 'k'->sp w [.ref a] H (λv _=>v=.bl true) λ_ _ _=>False)(h:∀(w:World) (H:Hp) (s:Shared) (e:Value) (s':Shared),CX w [] H s (λ_ _ _=>False) e s'->False) :
 PySem.W.WalkO q b o f l.row.toRowW d [] (λf b=>PySem.call f b):=by
 refine Att.attach_call r c λw d f g l i o n r c a b ns G l q s o n d c b r=>?_
 have o:=y w _ l;obtain⟨m,q,s⟩:=F w g i _ o G.T.g n;exact oY o G.T.g G.T.b G.T.builtins G.T.nolimit r d c (Aw b p) z s q (λH c d=>j w H a ns b c d) λH e s'=>h w H f e s'
def E1(s:Stmt):Arguments:=match s with
 | .FunctionDef _ a _ _ _ _ _ _ _ _=>a
 | _=>{ posonlyargs:=[],args:=[],vararg:=none,kwonlyargs:=[],kw_defaults:=[],kwarg:=none,defaults:=[] }
def Co(s:Stmt):List Stmt:=match s with
 | .FunctionDef _ _ b _ _ _ _ _ _ _=>b
 | _=>[]
def A9(s:Stmt):Scope:=match s with
 | .FunctionDef _ _ _ _ _ _ sc _ _ _=>sc
 | _=>{ kind:=.function,names:=[],isGenerator:=false,isCoroutine:=false }
abbrev CX0:Er:=λ_ _ _ _ _ _=>False
abbrev E0:XK:=λ_ _ _=>False
def gf:HI CX0 X E0:=λ_ _ _ _ _ _ _ h=>h.elim
structure CL(K:FG)(x qual:Str)(st:Stmt)(f:Addr)(fd:FuncData):Prop where
 ex:∃(oc:Value) (od:Option Addr) (kV doc pm:Value) (an:Option Addr) (cdv ct:Value) (osl:Array (Option Value)),
  fd=fnOf x qual (E1 st) (Co st) (A9 st) .none kV doc pm an cdv ct/\K.lookup f=some {oc,od,.func fd,osl}/\codeIn K cdv qual=true
 kp:keepIn K (.ref f)=true
section
variable{P:Program}{w:World}{K:FG}{mg:Str->Option Value}{base:Heap}
def CL.ok{x b:Str}{g:Stmt}{f:Addr}{l:FuncData}{N h:List Str}{k:Nat}{j:Sp}(F:CL K x b g f l)(S:D2 N h (A9 g))(i:∀d H Q E,j d H Q E->d.length=h.length)(e:∀(c:Value) (A:Around) (a:List Env) (s:Shared) (H:Hp) (d:List V) (Q:VK) (E:XK),Bc k (A.deeper (envOfC b (A9 g) s.heap.objs.size f c))->j d H Q E->
  ∃t,Cm (Do CX0 P w K mg base N b (A9 g) f c A a s H E).nox (Co g) t/\t { nx:=λ_ b=>Q .non b,rt:=Q } (start N d) H):Cn P w K mg base CX0 (k+1) f l h j:=by
 obtain⟨m,f,kV,b,l,n,c,j,h,rfl,f,b⟩:=F.ex;refine oy f b S i λA a s H d Q E f b=>?_
 obtain⟨t,h,q⟩:=e c A a s H d Q E f b;exact⟨t,h.nox,q⟩
def CL.binds{x a:Str}{d:Stmt}{f:Addr}{l:FuncData}{g:List Str}(F:CL K x a d f l)(h:∀(kV c e:Value) (f:Option Addr) (b j:Value) (i:List Value),i.length=g.length->bindArgs (fnOf x a (E1 d) (Co d) (A9 d) .none kV c e f b j) {i,[]}=pure (g.zip i)):FP K l g []:=by
 obtain⟨a,l,kV,c,e,f,b,j,g,rfl,l,a⟩:=F.ex;exact .all (h kV c e f b j)
def oZ{x a:Str}{st:Stmt}{f:Addr}{m:Value}{j g:Option Addr}{e:Array (Option Value)}{kV d h b i:Value}(l:K.lookup f=some {m,j,.func (fnOf x a (E1 st) (Co st) (A9 st) .none kV d h g b i),e})(c:codeIn K b a=true)(k:keepIn K (.ref f)=true):CL K x a st f (fnOf x a (E1 st) (Co st) (A9 st) .none kV d h g b i):={⟨m,j,kV,d,h,g,b,i,e,rfl,l,c⟩,k}
end
def gg{k:Nat}(a:Bc k A):A.units+2<cLine:=Cc (C5 (by decide:2<=64) _) a.units
def eF{n:Nat}(h:n<=1000):n<sizeLine:=Cc h 'z'
def pv(i:Nat){x:Str}(c:autoParam (X.N[i]?=some x) uR)(d:Vis X.env.scope x:=by first | exact Or.inl rfl | exact Or.inr (Or.inl rfl) | exact Or.inr (Or.inr rfl))(b:autoParam 'u' uD)(a:autoParam ((x == ("__classdict__" : Str))=false) uD):PE X (.Name x pos) (BA i):=nJ c d b a
def dO{A B:Prop}(h:B):if false=true then A else B:=by
 rw[if_neg BQ];exact h
def dc{A B:Prop}(h:A):if true=true then A else B:=by
 rw[if_pos rfl];exact h
def Ch(H H':Hp):Prop:=∀b o,H b=some o->H' b=some o
def Ch.refl(H:Hp):Ch H H:=λ_ _ h=>h
section
variable{L:Type}[DecidableEq L]
def BY(kvs:List (L×V))(k:L):Option V:=(kvs.find? λkv=>decide (kv.1=k)).map (·.2)
def Bk(kvs:List (L×V))(k:L)(v:V):List (L×V):=
 if (kvs.any λkv=>decide (kv.1=k))=true then kvs.map (λkv=>if kv.1=k then (kv.1,v) else kv) else kvs++[(k,v)]
def cx{p:L×V}{r:List (L×V)}{k:L}(e:p.1=k):BY (p::r) k=some p.2:=by simp[BY,FL,e]
def cy{p:L×V}{r:List (L×V)}{k:L}(e:¬p.1=k):BY (p::r) k=BY r k:=by simp[BY,FL,e]
theorem dP(k:L):∀a:List (L×V),(a.any λb=>decide (b.1=k))=(BY a k).isSome
 | []=>rfl
 | p::r=>by
   rw[List.any_cons];by_cases e:p.1=k
   ·simp only[cx e,aV e,Bool.true_or,Option.isSome_some]
   ·rw[cy e,aI e,Bool.false_or];exact dP k r
def dQ(a:List (L×V))(k:L)(v:V):(Bk a k v).length<=a.length+1:=by
 unfold Bk;split
 ·rw[Ai];omega
 ·rw[A4,B1,FK];omega
theorem DJ.isSome_eq(r:DJ o u):o.isSome=u.isSome:=by
 cases o with
 | none=>cases u with
   | none=>rfl
   | some _=>exact(show False from r).elim
 | some _=>cases u with
   | none=>exact(show False from r).elim
   | some _=>rfl
theorem DJ.getD(r:DJ o u)(rd:An d d'):An (o.getD d) (u.getD d'):=by
 cases o with
 | none=>cases u with
   | none=>exact rd
   | some _=>exact(show False from r).elim
 | some _=>cases u with
   | none=>exact(show False from r).elim
   | some _=>exact r
theorem KV.val(r:KV a i)(k:L):DJ (BY a k) (valueAt i k):=by
 unfold KV at r;induction r with
 | nil=>exact True.intro
 | @cons p q b c h t f=>
   obtain⟨d,g⟩:=h;by_cases e:p.1=k
   ·have e':q.1=k:=d.symm.trans e
    have b:valueAt (q::c) k=some q.2:=by simp[valueAt,FL,e']
    rw[cx e,b];exact g
   ·have e':¬q.1=k:=λz=>e (d.trans z)
    have b:valueAt (q::c) k=valueAt c k:=by simp[valueAt,FL,e']
    rw[cy e,b];exact f
theorem KV.any{a:List (L×V)}{c:List (L×Value)}(r:KV a c)(k:L):(a.any λb=>decide (b.1=k))=c.any λb=>decide (b.1=k):=by
 unfold KV at r;induction r with
 | nil=>rfl
 | cons h t b=>rw[List.any_cons,List.any_cons,b,h.1]
theorem KV.repl(r:KV b f)(k:L)(g:An y u) :
 KV (b.map λa=>if a.1=k then (a.1,y) else a) (f.map λa=>if a.1=k then (a.1,u) else a):=by
 unfold KV at r ⊢;induction r with
 | nil=>exact .nil
 | @cons p q a d h t c=>
   rw[Be,Be];refine .cons ?_ c;obtain⟨a,d⟩:=h;by_cases e:p.1=k
   ·rw[if_pos e,if_pos (a.symm.trans e)];exact⟨a,g⟩
   ·rw[if_neg e,if_neg (λz=>e (a.trans z))];exact⟨a,d⟩
def KV.put(r:KV a b)(k:L)(c:An y u):KV (Bk a k y) (stored b k u):=by
 unfold Bk stored;rw[r.any k];by_cases e:(b.any λd=>decide (d.1=k))=true
 ·rw[if_pos e,if_pos e];exact r.repl k c
 ·rw[if_neg e,if_neg e];exact Paired.snoc r ⟨rfl,c⟩
def KV.length{a:List (L×V)}{b:List (L×Value)}(r:KV a b):a.length=b.length:=Paired.length r
end
def cz(r:An (kV k) u):(BI P w).is k u=true:=by
 cases k with
 | inl i=>obtain⟨t,e⟩:=(show ∃t,u=Value.int i t from r);subst e;exact nr P w i t
 | inr x=>obtain⟨t,e⟩:=(show ∃t,u=Value.str x t from r);subst e;exact nt P w x t
theorem jj:∀{a:List As} {b:List Value},Ao (a.map kV) b->ItemsAre (BI P w) a b
 | [],_,r=>by rw[Da] at r;cases r;exact .nil
 | k::a,_,r=>by
   rw[Be] at r;cases r with
   | cons h t=>exact .cons (cz h) (jj t)
abbrev KT(H:Hp):List (List Ak×V)->List (List Ak×Addr×Value)->Prop:=Paired λp q=>p.1=q.1/\Cg H q.2.1 p.1/\An p.2 q.2.2
theorem KT.val(r:KT H a i)(k:List Ak):DJ (BY a k) ((atKey i k).map (·.2)):=by
 induction r with
 | nil=>exact True.intro
 | @cons p q b c h t f=>
   obtain⟨d,_,g⟩:=h;by_cases e:p.1=k
   ·have e':q.1=k:=d.symm.trans e
    have b:atKey (q::c) k=some q.2:=by simp[atKey,FL,e']
    rw[cx e,b];exact g
   ·have e':¬q.1=k:=λz=>e (d.trans z)
    have b:atKey (q::c) k=atKey c k:=by simp[atKey,FL,e']
    rw[cy e,b];exact f
theorem KT.repl(r:KT H b f)(k:List Ak)(i:An y u) :
 KT H (b.map λa=>if a.1=k then (a.1,y) else a) (f.map (putAt k u)):=by
 induction r with
 | nil=>exact .nil
 | @cons p q a c h t d=>
   rw[Be,Be];refine .cons ?_ d;obtain⟨a,c,g⟩:=h;unfold putAt;by_cases e:p.1=k
   ·rw[if_pos e,if_pos (a.symm.trans e)];exact⟨a,c,i⟩
   ·rw[if_neg e,if_neg (λz=>e (a.trans z))];exact⟨a,c,g⟩
def KT.put(r:KT H a c)(k:List Ak)(f:Cg H b k)(d:An y u) :
 KT H (Bk a k y) (storedH c k b u):=by
 have e:(a.any λb=>decide (b.1=k))=(atKey c k).isSome:=by
  rw[dP,(r.val k).isSome_eq,Option.isSome_map]
 unfold Bk storedH;rw[e];by_cases q:(atKey c k).isSome=true
 ·rw[if_pos q,if_pos q];exact r.repl k d
 ·rw[if_neg q,if_neg q];exact Paired.snoc r ⟨rfl,f,d⟩
def KT.keeps(r:KT H a d)(e:∀b c,H b=some (.tup c)->H' b=some (.tup c)):KT H' a d:=
 Paired.mapP r λ_ _ z=>{z.1,z.2.1.keeps e,z.2.2}
def jk(b:Bm P w H h)(e:Rd H a u):Bx P w H h a u:=e.ok b
def cA(d:Bm P w H h)(e:Rd H a (.dK b)):b.length<=sizeLine/\(a == sysModules)=false/\∃c,KV b c/\h.DictOf (BI P w) a c:=
 show Bx P w H h a (.dK b) from jk d e
def jl(d:Bm P w H h)(e:H a=some (.dK b)):b.length<=sizeLine/\(a == sysModules)=false/\∃c,KV b c/\h.DictOf (BI P w) a c:=cA d (.inl e)
def o3{c:List As}(d:Bm P w H h)(e:H a=some (.tup (c.map kV))):(tupleKind (BI P w)).is h c a:=by
 obtain⟨_,b,r,⟨o,g,f,n,i⟩,_⟩:=(show Bx P w H h a (.tup (c.map kV)) from d a _ e);exact{o,b.toArray,n,g,f,i,by simpa using jj r}
theorem o4(a:Bm P w H h):∀{k:Ak} {v:V} {u:Value},KIs H k v->An v u->B2 P w h k u
 | .inl i,_,_,e,r=>by subst e;obtain⟨t,rfl⟩:=r;exact iI i t
 | .inr x,_,_,e,r=>by subst e;obtain⟨t,rfl⟩:=r;exact iJ x t
 | .t l,_,_,⟨b,e,q⟩,r=>by subst e;cases r;exact{b,rfl,o3 a q}
theorem jm(g:Bm P w H h):∀{i:List Ak} {f:List V} {e:List Value},Paired (KIs H) i f->Ao f e->Paired (B2 P w h) i e
 | _,_,_,.nil,.nil=>.nil
 | _,_,_,.cons a b,.cons c d=>.cons (o4 g a c) (jm g b d)
def bS(c:Bm P w H h)(e:Cg H a l):(D1 P w).is h l a:=by
 obtain⟨d,e,f⟩:=e;obtain⟨_,b,r,⟨o,i,g,n,j⟩,_⟩:=(show Bx P w H h a (.tup d) from c a _ e);exact{o,b.toArray,n,i,g,j,by simpa using jm c f r}
def cB{A:Around}(a:A.units+2<cLine):(D1 P w).room A.in1:=by
 show A.in1.units+1<cLine;rw[Around.in1_units];exact a
def cC(f:Bm P w H h)(e:Rd H a (.dT b)):b.length<=sizeLine/\(a == sysModules)=false/\
 ∃c,KT H b c/\h.DictOfH (D1 P w) a c:=by
 obtain⟨z,y,c,r,o,es,m,i,d,l,g,j⟩:=(show Bx P w H h a (.dT b) from jk f e);refine{z,y,c,r,o,es,m,i,d,l,g,λx a=>?_,j};have c:∀{l:List (List Ak×V)} {m:List (List Ak×Addr×Value)},KT H l m->∀x∈m,(D1 P w).is h x.1 x.2.1:=by
  intro l m q;induction q with
  | nil=>intro x a;exact nomatch a
  | @cons p q h i d t g=>
    intro x a;rcases AL.mp a with e | a
    ·subst e
     exact bS f (by rw[<-d.1];exact d.2.1)
    ·exact g x a
 exact c r x a
def eG(d:Bm P w H h)(e:H a=some (.dT b)):b.length<=sizeLine/\(a == sysModules)=false/\
 ∃c,KT H b c/\h.DictOfH (D1 P w) a c:=cC d (.inl e)
def BB(H:Hp)(a:Addr)(y:V)(r:Option V):Prop:=
 (∃kvs k,Rd H a (.dK kvs)/\y=kV k/\r=BY kvs k)\/∃kvs k b,Rd H a (.dT kvs)/\y=.ref b/\Cg H b k/\r=BY kvs k
def EG(H:Hp)(a:Addr)(y v:V)(H':Hp):Prop:=
 (∃kvs k,H a=some (.dK kvs)/\y=kV k/\kvs.length<sizeLine/\H'=Af H a (.dK (Bk kvs k v)))\/
 ∃kvs k b,H a=some (.dT kvs)/\y=.ref b/\Cg H b k/\kvs.length<sizeLine/\H'=Af H a (.dT (Bk kvs k v))
def BB.k{H:Hp}{a:Addr}{b:List (As×V)}{k:As}(e:H a=some (.dK b)):BB H a (kV k) (BY b k):=.inl {b,k,.inl e,rfl,rfl}
def BB.t{H:Hp}{a b:Addr}{c:List (List Ak×V)}{k:List Ak}(e:H a=some (.dT c))(d:Cg H b k):BB H a (.ref b) (BY c k):=.inr {c,k,b,.inl e,rfl,d,rfl}
def EG.k{H:Hp}{a:Addr}{b:List (As×V)}{k:As}{v:V}(e:H a=some (.dK b))(c:b.length<sizeLine):EG H a (kV k) v (Af H a (.dK (Bk b k v))):=.inl ⟨b,k,e,rfl,c,rfl⟩
def EG.t{H:Hp}{a b:Addr}{c:List (List Ak×V)}{k:List Ak}{v:V}(e:H a=some (.dT c))(f:Cg H b k)(d:c.length<sizeLine) :
 EG H a (.ref b) v (Af H a (.dT (Bk c k v))):=.inr ⟨c,k,b,e,rfl,f,d,rfl⟩
def Ad.big(I:Ad X A0 Y H s):sysModules<s.heap.objs.size:=by
 have h:mainGlobals<s.heap.objs.size:=(I.mod.glob.keeps I.bk).lt;exact Nat.lt_trans 'z' h
def o5(m:A.units+2<cLine)(I:Ad X A0 Y H s)(g:BB H a y (some v))(j:An y u)(h:∀w' s',Ad X A0 Y H s'->An v w'->Q w' s') :
 wpAny 'e' A (getItem (.ref a) u) Q E s:=by
 rcases g with⟨a,k,e,i,l⟩ | ⟨a,k,b,e,i,q,l⟩
 ·subst i
  obtain⟨z,g,n,a,f⟩:=cA I.hok e;obtain⟨w',d,c⟩:=DJ.some_of (v:=v) (o:=valueAt n k) (by rw[l];exact a.val k);exact wpAny_getItem_of (cz j) f.mapOf d (h w' _ (I.tok _) c)
 ·subst i
  cases (show u=Value.ref b from j);obtain⟨z,g,i,a,f⟩:=cC I.hok e;obtain⟨w',d,c⟩:=DJ.some_of (v:=v) (o:=(atKey i k).map (·.2)) (by rw[l];exact a.val k);obtain⟨p,e,b⟩:=Option.map_eq_some_iff.mp d;refine wpAny_getItem_heap (cB m) (bS I.hok q) f e ?_;rw[b];exact h w' _ (I.tok _) c
def o6(j:A.units+2<cLine)(I:Ad X A0 Y H s)(g:BB H a y o)(i:An y u)(h:∀s',Ad X A0 Y H s'->Q (.bool o.isSome) s') :
 wpAny 'e' A (compareOp .In u (.ref a)) Q E s:=by
 rcases g with⟨a,k,e,f,l⟩ | ⟨a,k,b,e,f,g,l⟩
 ·subst f
  obtain⟨z,c,m,a,d⟩:=cA I.hok e;refine wpAny_in_of (cz i) c d.mapOf ?_;rw[<-(a.val k).isSome_eq,<-l];exact h _ (I.tok _)
 ·subst f
  cases (show u=Value.ref b from i);obtain⟨z,c,f,a,d⟩:=cC I.hok e;refine wpAny_in_heap (cB j) (bS I.hok g) c d ?_;have q:=(a.val k).isSome_eq;rw[Option.isSome_map] at q;rw[<-q,<-l];exact h _ (I.tok _)
def o7(j:A.units+2<cLine)(I:Ad X A0 Y H s)(g:BB H a y o)(i:An y u)(h:∀s',Ad X A0 Y H s'->Q (.bool (!o.isSome)) s') :
 wpAny 'e' A (compareOp .NotIn u (.ref a)) Q E s:=by
 rcases g with⟨a,k,e,f,l⟩ | ⟨a,k,b,e,f,g,l⟩
 ·subst f
  obtain⟨z,c,m,a,d⟩:=cA I.hok e;refine wpAny_notIn_of (cz i) c d.mapOf ?_;rw[<-(a.val k).isSome_eq,<-l];exact h _ (I.tok _)
 ·subst f
  cases (show u=Value.ref b from i);obtain⟨z,c,f,a,d⟩:=cC I.hok e;refine wpAny_notIn_heap (cB j) (bS I.hok g) c d ?_;have q:=(a.val k).isSome_eq;rw[Option.isSome_map] at q;rw[<-q,<-l];exact h _ (I.tok _)
def de{t':Nat}(I:Ad X A0 Y H s)(f:Mut (H a))(d:Heap.SameBut a s.heap h')(g:∃q,h'.get? a=some q)(c:Bx X.prog X.w (Af H a ob) h' a ob) :
 Ad X A0 Y (Af H a ob) { s with heap:=h',toks:=t' }:=
 I.write (x:=a) (e:=a) f (.inl rfl) (λb q a z=>(d.2 b a).trans z) g c
def jn(z:b.length<=sizeLine)(e:(a == sysModules)=false)(c:KV b d)(f:h'.DictOf (BI P w) a d) :
 Bx P w H' h' a (.dK b):=⟨z,e,d,c,f⟩
def o8(C:A.units+2<cLine)(I:Ad X A0 Y H s)(g:EG H a y v H')(x:An y u)(B:An v r)(h:∀s',Ad X A0 Y H' s'->Q () s') :
 wpAny 'e' A (setItem (.ref a) u r) Q E s:=by
 rcases g with⟨c,k,e,o,l,i⟩ | ⟨c,k,b,e,o,r,l,i⟩
 ·subst o i
  obtain⟨z,l,f,d,n⟩:=jl I.hok e;have g:f.length<=sizeLine:=by rw[<-d.length];exact z
  have j:(Bk c k v).length<=sizeLine:=by have:=dQ c k v;omega
  refine wpAny_setItem_pairs (hsz:=g) (cz x) n λp f m=>h _ ?_
  have s:∃q,p.get? a=some q:=let ⟨q,_,_,a,_⟩:=f;⟨q,a⟩;exact de I (by rw[e];exact True.intro) m s (jn j l (d.put k B) f)
 ·subst o i
  cases (show u=Value.ref b from x);obtain⟨z,l,i,d,n⟩:=eG I.hok e;have g:i.length<=sizeLine:=by rw[<-Paired.length d];exact z
  have j:(Bk c k v).length<=sizeLine:=by have:=dQ c k v;omega
  refine wpAny_setItem_heap (hsz:=g) (cB C) (bS I.hok r) n λp f m=>h _ ?_
  obtain⟨q,es,n,a,g,i,h,_,o⟩:=f;refine de I (by rw[e];exact True.intro) m ⟨q,a⟩ {j,l,_,(d.put k r B).keeps λc d b=>?_,q,es,n,a,g,i,h,o};rw[aj (bQ b e (λz=>nomatch z))];exact b
def Ge(i:Expr):Prop:=∀ov iv,subscripted i false ov iv=operate [ov,iv] (getItem ov iv)
def o9{T a:String}(d:typeLookup (.type T) "__getitem__" = pure (some (.builtin a)))(e:Ge slice)(h:wpAny 'r' A (eval value env) (λo b=>wpAny 'r' A (eval slice env) (λi a=>a.TypeIs o T/\wpAny 'r' A (getItem o i) Q E a) E b) E s) :
 wpAny 'r' A (eval (.Subscript value slice pos) env) Q E s:=by
 refine Subscript_ (Di h (λo b c=>Di c (λi a b=>?_) λ_ _ x=>x) λ_ _ x=>x);obtain⟨c,b⟩:=b;unfold subscriptTail;refine Ac ?_;rw[getitemInPython_of_ne c.not_modules];refine Ac (wpAny_specialOf c d ?_);have fin:wpAny 'r' A (subscripted slice false o i) (λr c=>wpAny 'r' A (letTemporaryGo value o r >>= λ_=>pure r) Q E c) E a:=by
  rw[e o i];exact wpAny_operating (Di b (λr c a=>Ac (wpAny_letTemporaryGo (Aj a))) λ_ _ x=>x)
 first
  | exact Aj (Ac fin)
  | exact Ac (Aj (Ac fin))
  | exact Ac fin
def pa(I:Ad X A0 Y H s)(g:BB H a y o):s.TypeIs (.ref a) "dict":=by
 rcases g with⟨a,k,e,_,_⟩ | ⟨a,k,b,e,_,_,_⟩
 ·obtain⟨_,_,b,_,a⟩:=cA I.hok e
  exact a.typeIs
 ·obtain⟨_,_,b,_,a⟩:=cC I.hok e
  exact a.typeIs
def Kh(td ty:TE):TE:=λY H Q=>td Y H λx H1=>ty Y H1 λy H2=>∃a v,x=.ref a/\BB H2 a y (some v)/\Q v H2
def Ki(ty td:TE):TE:=λY H Q=>ty Y H λy H1=>td Y H1 λx H2=>∃a o,x=.ref a/\BB H2 a y o/\Q (.bl o.isSome) H2
def Kj(ty td:TE):TE:=λY H Q=>ty Y H λy H1=>td Y H1 λx H2=>∃a o,x=.ref a/\BB H2 a y o/\Q (.bl (!o.isSome)) H2
def Kk(td ty tv:TE):TS:=λD Y H=>tv Y H λv H1=>td Y H1 λx H2=>ty Y H2 λy H3=>∃a H4,x=.ref a/\EG H3 a y v H4/\D.nx Y H4
def cD(c:X.A.units+2<cLine)(b:PE X o td)(f:PE X i ty)(d:Ge i):PE X (.Subscript o i pos) (Kh td ty):=by
 intro a s Y H Q I h;refine o9 PySem.F.slot_dict_getitem.lookup d (ag (b a s Y H _ I h) λu b ⟨x,H1,I1,d,q1⟩=>ag (f a b Y H1 _ I1 q1) λe a hI95=>?_);obtain⟨y,H2,I2,e,a,v,b,g,q2⟩:=hI95;subst b;obtain rfl:u=Value.ref a:=d;exact{pa I2 g,o5 c I2 g e λw' b I3 a=>⟨v,H2,I3,a,q2⟩}
def jo(c:X.A.units+2<cLine)(j:PE X i ty)(b:PE X o td):PC X .In i o (Ki ty td):=by
 intro a s Y H Q I h;refine ag (j a s Y H _ I h) λe d ⟨y,H1,I1,f,q1⟩=>ag (b a d Y H1 _ I1 q1) λu a hI96=>?_
 obtain⟨x,H2,I2,d,a,e,b,g,q2⟩:=hI96;subst b;obtain rfl:u=Value.ref a:=d;exact o6 c I2 g f λa I3=>{.bl e.isSome,H2,I3,rfl,q2}
def pb(c:X.A.units+2<cLine)(j:PE X i ty)(b:PE X o td):PC X .NotIn i o (Kj ty td):=by
 intro a s Y H Q I h;refine ag (j a s Y H _ I h) λe d ⟨y,H1,I1,f,q1⟩=>ag (b a d Y H1 _ I1 q1) λu a hI97=>?_
 obtain⟨x,H2,I2,d,a,e,b,g,q2⟩:=hI97;subst b;obtain rfl:u=Value.ref a:=d;exact o7 c I2 g f λa I3=>{.bl (!e.isSome),H2,I3,rfl,q2}
def jp(c:X.A.units+2<cLine)(b:PE X o td)(e:PE X i ty)(d:PE X value tv)(f:swapsWith value (some (.Subscript o i pos')) pos.line X.env=pure false) :
 PS X (.Assign [.Subscript o i pos'] value pos) (Kk td ty tv):=by
 intro a s Y H D I h;refine wpAny_Assign_Subscript (ag (d a s Y H _ I h) λr d ⟨v,H1,I1,h,q1⟩=>ag (b a d Y H1 _ I1 q1) λu b ⟨x,H2,I2,i,q2⟩=>ag (e a b Y H2 _ I2 q2) λd a hI98=>?_) f;obtain⟨y,H3,I3,d,a,b,f,g,q3⟩:=hI98;subst f;obtain rfl:u=Value.ref a:=i;exact o8 c I3 g d h λa I4=>⟨Y,b,I4,q3⟩
def pd(h:Heap)(a:sysModules<h.objs.size):Bx P w H (h.push { cls:=.type "dict",data:=.dict #[] }) h.objs.size (.dK []):=
 {AR _,beq_eq_false_iff_ne.mpr (Ne.symm (Bf a)),[],.nil,Heap.DictOf.new h}
def gh(h:Heap)(a:sysModules<h.objs.size):Bx P w H (h.push { cls:=.type "dict",data:=.dict #[] }) h.objs.size (.dT []):=
 {AR _,beq_eq_false_iff_ne.mpr (Ne.symm (Bf a)),[],.nil,_,#[],0,AZ _ rfl,⟨rfl,rfl,rfl⟩,rfl,rfl,List.nodup_nil}
def Kl:TE:=λ_ H Q=>∀p,H p=none->Q (.ref p) (Af H p (.dT []))
def pf:PE X (.Dict [] [] pos) Kl:=λb s Y H Q I h=>
 wpAny_Dict_empty {.ref s.heap.objs.size,_,I.laid (a:=s.heap.objs.size) (o:=.dT []) (t':=s.toks) (λ_ _ q=>AH _ q) (Al _) (gh s.heap I.big),rfl,h _ (I.hok.fresh (Al _))}
def Gf:List (TE×TE)->St->Hp->(List (V×V)->Hp->Prop)->Prop
 | [],_,H,Q=>Q [] H
 | (tk,tv)::r,Y,H,Q=>tk Y H λx H1=>tv Y H1 λy H2=>Gf r Y H2 λps H3=>Q ((x,y)::ps) H3
abbrev VV:List (V×V)->List (Value×Value)->Prop:=Paired λp q=>An p.1 q.1/\An p.2 q.2
instance PPs(X:Cx)(pos:Pos)(keys:List (Option Expr))(values:List Expr)(trs:List (TE×TE)):Prop:=
 ∀(A0:List 'p') (s:Shared) (Y:St) (H:Hp) (Q:List (V×V)->Hp->Prop),Ad X A0 Y H s->Gf trs Y H Q->
  wpAny 'e' X.A (evalPairs (pairTrees keys values X.env pos)) (λvs s'=>∃ps H',Ad X A0 Y H' s'/\VV ps vs/\Q ps H') X.xe s
def gi:PPs X pos [] [] []:=λa s Y H Q I h=>pairTrees_nil_walk {[],H,I,.nil,h}
def eH(c:PE X k tk)(g:PE X v tv)(e:PPs X pos b d trs) :
 PPs X pos (some k::b) (v::d) ((tk,tv)::trs):=λa s Y H Q I h=>
 pairTrees_cons_walk (ag (c a s Y H _ I h) λu c ⟨x,H1,I1,f,q1⟩=>ag (g a c Y H1 _ I1 q1) λh c ⟨y,H2,I2,g,q2⟩=>
  ag (e a c Y H2 _ I2 q2) λe h ⟨c,H3,I3,a,q3⟩=>{(x,y)::c,H3,I3,.cons ⟨f,g⟩ a,q3})
def EH(kvs more:List (As×V)):List (As×V):=more.foldl (λacc kv=>Bk acc kv.1 kv.2) kvs
theorem KV.merge:∀{a:List (As×V)} {d:List (As×Value)} {b:List (As×V)} {c:List (As×Value)},KV a d->KV b c->KV (EH b a) (merged c d):=by
 intro a d b c r;unfold KV at r;induction r generalizing b c with
 | nil=>intro q;exact q
 | @cons p q d e h t a=>
   intro d;have e:KV (Bk b p.1 p.2) (stored c q.1 q.2):=by
    have:=d.put p.1 h.2;rw[<-h.1];exact this
   exact a e
theorem jq:∀(b a:List (As×V)),(EH a b).length<=a.length+b.length
 | [],a=>by show a.length<=a.length+0;omega
 | p::r,a=>by
   have b:=jq r (Bk a p.1 p.2);have b:=dQ a p.1 p.2;show (EH (Bk a p.1 p.2) r).length<=_;rw[B1];omega
theorem jr:∀{d:List (As×V)} {a:List (Value×Value)},VV (d.map λb=>(kV b.1,b.2)) a->∃e,Carries (BI P w) a e/\KV d e
 | [],_,r=>by rw[Da] at r;cases r;exact{[],True.intro,.nil}
 | p::d,_,r=>by
   rw[Be] at r;cases r with
   | @cons a b c f h t=>
     obtain⟨e,c,q⟩:=jr (P:=P) (w:=w) t;obtain⟨f,a⟩:=b;exact{(p.1,a)::e,{cz h.1,rfl,c},.cons ⟨rfl,h.2⟩ q}
def Jk(trs:List (TE×TE)):TE:=λY H Q=>∀p,H p=none->Gf trs Y (Af H p (.dK [])) λps H2=>H2 p=some (.dK [])/\∃kvs:List (As×V),ps=kvs.map (λkv=>(kV kv.1,kv.2))/\kvs.length<=15/\Q (.ref p) (Af H2 p (.dK (EH [] kvs)))
def js(h:PPs X pos keys values trs)(b:keys.all (·.isSome)=true)(e:keys.length=values.length)(f:keys≠[])(c:keys.length<=15):PE X (.Dict keys values pos) (Jk trs):=by
 intro d s Y H Q I q;have g:=I.hok.fresh (Al s.heap.objs.size);have I1:=I.laid (a:=s.heap.objs.size) (o:=.dK []) (h':=s.heap.push { cls:=.type "dict",data:=.dict #[] }) (t':=s.toks) (λ_ _ q=>AH _ q) (Al _) (pd s.heap I.big);refine wpAny_Dict_walk (knd:=BI X.prog X.w) b e f c (ag (h d _ Y _ _ I1 (q _ g)) λd b hI99=>?_);obtain⟨c,H2,I2,b,e,d,f,g,q2⟩:=hI99;subst f;obtain⟨j,c,g⟩:=jr (P:=X.prog) (w:=X.w) b;obtain⟨z,i,h,f,l⟩:=jl I2.hok e;cases f;refine{j,c,l,λh' b h=>{.ref s.heap.objs.size,_,?_,rfl,q2}};have c:(EH [] d).length<=sizeLine:=by
  have f:=jq d [];rw[FK] at f;rw[sizeLine_eq];omega
 have d:∃q,h'.get? s.heap.objs.size=some q:=let ⟨q,_,_,f,_⟩:=b;⟨q,f⟩;exact de I2 (by rw[e];exact True.intro) h d (jn c i (g.merge .nil) b)
structure M2(X:Cx)(o:Expr)(m:Str)(apos:Pos)(e f:Expr)(cpos:Pos):Prop where
 base:attributeBase o m X.env (eval o X.env)=eval o X.env
 few:((backTo cpos (starEach [e,f] X.env)).all (λx=>!x.1)&&(backToKw cpos (keywordEach [] X.env)).all (λx=>x.1.isSome)
  && decide (([e,f]:List Expr).length+([]:List Keyword).length+(if ([]:List Keyword).isEmpty then 0 else 1)<30))=true
 line:(apos.endLine == cpos.line)=true
 trees:backTo cpos (starEach [e,f] X.env)=[(false,eval e X.env),(false,eval f X.env)]
instance IsD(H:Hp)(a:Addr):Prop:=(∃kvs,Rd H a (.dK kvs))\/∃kvs,Rd H a (.dT kvs)
def pg(I:Ad X A0 Y H s)(d:IsD H a) :
 s.TypeIs (.ref a) "dict"/\(∀b,Value.ref a=.ref b->∃c,s.heap.get? b=some c/\c.dict=none)/\(a == sysModules)=false:=by
 rcases d with⟨a,e⟩ | ⟨a,e⟩
 ·obtain⟨_,d,f,_,a⟩:=cA I.hok e
  refine{a.typeIs,λb q=>?_,d};cases q;obtain⟨c,_,_,g,f,_⟩:=a;exact⟨c,g,f.2.1⟩
 ·obtain⟨_,d,h,_,a⟩:=cC I.hok e
  refine{a.typeIs,λb q=>?_,d};cases q;obtain⟨c,_,_,g,f,_⟩:=a;exact⟨c,g,f.2.1⟩
def ph(m:A.units+2<cLine)(I:Ad X A0 Y H s)(g:BB H a y o)(j:An y u)(rd:An d r)(h:∀w' s',Ad X A0 Y H s'->An (o.getD d) w'->Q w' s') :
 wpAny 'e' A (call (.builtin "dict.get") [.ref a,u,r]) Q E s:=by
 rcases g with⟨c,k,e,i,l⟩ | ⟨c,k,b,e,i,n,l⟩
 ·subst i
  obtain⟨z,f,g,c,d⟩:=cA I.hok e;refine call_meetsIn PySem.F.slot_dict_get d.typeIs PySem.F.entry_dict_get (PySem.F.args_dict_get_3 _ _ _) (meets_dict_get_default (BI X.prog X.w) a (cz j) f r) {_,d.mapOf,h _ _ (I.tok _) ?_};rw[l];exact(c.val k).getD rd
 ·subst i
  cases (show u=Value.ref b from j);obtain⟨z,f,g,c,d⟩:=cC I.hok e;refine call_meetsIn PySem.F.slot_dict_get d.typeIs PySem.F.entry_dict_get (PySem.F.args_dict_get_3 _ _ _) (meetsH_dict_get_default (D1 X.prog X.w) a b f r) {cB m,k,g,bS I.hok n,d,h _ _ (I.tok _) ?_};rw[l];exact(c.val k).getD rd
def Km(td ty tx:TE):TE:=λY H Q=>td Y H λx H1=>∃a,x=.ref a/\IsD H1 a/\ty Y H1 λy H2=>tx Y H2 λz H3=>∃o,BB H3 a y o/\Q (o.getD z) H3
def pi(i:X.A.units+2<cLine)(a:PE X o td)(g:PE X e ty)(j:PE X f tx)(m:M2 X o "get" apos e f cpos):PE X (.Call (.Attribute o "get" apos) [e,f] [] cpos) (Km td ty tx):=by
 intro b s Y H Q I h;refine wpAny_Call_method m.base m.few m.line PySem.F.plainAttrs_dict PySem.F.slot_dict_get PySem.F.type_dict_get (ag (a b s Y H _ I h) λu e hI100=>?_);obtain⟨x,H1,I1,h,a,c,d,q1⟩:=hI100;subst c;obtain rfl:u=Value.ref a:=h;obtain⟨c,f,_⟩:=pg I1 d;refine{c,f,?_};rw[m.trees];refine Calls.callWith_builtin rfl (Calls.evalArgs_plain (Calls.spliced_cons (ag (g b e Y H1 _ I1 q1) λd a ⟨y,H2,I2,c,q2⟩=>Calls.spliced_cons (ag (j b a Y H2 _ I2 q2) λd a ⟨z,H3,I3,b,e,g,q3⟩=>Calls.spliced_nil ?_))));exact ph i I3 g c b λw' d I4 a=>{_,H3,I4,a,q3}
section
variable{L:Type}[DecidableEq L]
end
def EI(cells:List (Str×Addr)):List (Str×NameKind)->List (Str×Addr)->List (Str×Addr)
 | [],cs=>cs
 | (n,k)::r,cs=>EI cells r (if k == .free then (match cells.lookup n with | some a=>(n,a)::cs | none=>cs) else cs)
theorem jt:∀(names:List (Str×NameKind)) (cs:List (Str×Addr)),(∀y∈names,y.2=.free->∃a,env.cells.lookup y.1=some a)->
 (forIn (m:=Sem) names cs λ(x:Str×NameKind) (r:List (Str×Addr))=>
  match x with
  | (b,kind)=>if (kind == .free)=true then do let a <-cellOf env b;pure (ForInStep.yield ((b,a)::r)) else pure (ForInStep.yield r))=pure (EI env.cells names cs)
 | [],cs,_=>rfl
 | (n,k)::r,cs,h=>by
   rw[List.forIn_cons];have d:=λb=>jt (env:=env) r b λy c=>h y (DU _ c)
   by_cases b:(k == NameKind.free)=true
   ·have c:k=.free:=by simpa using b
    obtain⟨a,e⟩:=h (n,k) C6 c;simp only[b,if_true,EI,cellOf];have c:env.cells.lookup n=some a:=e;rw[c];exact d _
   ·simp only[b,EI]
    exact d _
def pj(h:∀y∈scope.names,y.2=.free->∃a,env.cells.lookup y.1=some a):closureFor scope env=pure (EI env.cells scope.names []):=by
 simp only[closureFor];have e:=jt (env:=env) scope.names [] h;have a:=congrArg (λm:Sem (List (Str×Addr))=>m >>= pure) e;exact a
def dR{α:Type}{x n:Str}{v:α}{l:List (Str×α)}:List.lookup x ((n,v)::l)=if x=n then some v else l.lookup x:=by
 rw[List.lookup_cons];by_cases e:x=n
 ·subst e;simp
 ·rw[if_neg e]
  have:(x == n)=false:=by simpa using e
  rw[this]
theorem ju{cells:List (Str×Addr)}:∀(names:List (Str×NameKind)) (cs:List (Str×Addr)) (x:Str) (c:Addr),
 (∀x c,cs.lookup x=some c->cells.lookup x=some c)->(EI cells names cs).lookup x=some c->cells.lookup x=some c
 | [],cs,x,c,h,e=>h x c e
 | (n,k)::r,cs,x,c,h,e=>by
   refine ju r _ x c (λy d b=>?_) e;by_cases f:(k == NameKind.free)=true
   ·rw[if_pos f] at b
    cases c:cells.lookup n with
    | none=>rw[c] at b;exact h y d b
    | some a=>
      rw[c] at b;have b:List.lookup y ((n,a)::cs)=some d:=b;rw[dR] at b;by_cases e:y=n
      ·rw[if_pos e] at b;cases b;rw[e];exact c
      ·rw[if_neg e] at b;exact h y d b
   ·rw[if_neg f] at b;exact h y d b
theorem jv{cells:List (Str×Addr)}:∀(names:List (Str×NameKind)) (cs:List (Str×Addr)) (x:Str),(∃c,cs.lookup x=some c)->∃c,(EI cells names cs).lookup x=some c
 | [],_,_,h=>h
 | (n,k)::r,cs,x,h=>by
   refine jv r _ x ?_;by_cases b:(k == NameKind.free)=true
   ·rw[if_pos b]
    cases d:cells.lookup n with
    | none=>exact h
    | some a=>
      show ∃c,List.lookup x ((n,a)::cs)=some c;rw[dR];by_cases e:x=n
      ·rw[if_pos e];exact{_,rfl}
      ·rw[if_neg e];exact h
   ·rw[if_neg b];exact h
theorem jw{cells:List (Str×Addr)}:∀(names:List (Str×NameKind)) (cs:List (Str×Addr)) (x:Str),(x,NameKind.free)∈names->(∃a,cells.lookup x=some a)->∃c,(EI cells names cs).lookup x=some c
 | [],_,_,h,_=>nomatch h
 | (n,k)::r,cs,x,h,b=>by
   rcases AL.mp h with e | d
   ·have f:x=n:=congrArg Prod.fst e
    have g:NameKind.free=k:=congrArg Prod.snd e;subst f g;obtain⟨a,b⟩:=b;refine jv r _ x ?_;show ∃c,List.lookup x (if (NameKind.free == NameKind.free)=true then (match cells.lookup x with | some a=>(x,a)::cs | none=>cs) else cs)=some c;rw[if_pos (by rfl),b];show ∃c,List.lookup x ((x,a)::cs)=some c;rw[dR,if_pos rfl];exact{_,rfl}
   ·exact jw r _ x d b
instance pick(Y:St)(ixs:List (Option Nat)):St:=ixs.map λo=>match o with
 | some i=>(Y[i]?).join
 | none=>none
def BS(X:Cx)(N':List Str)(scope:Scope)(cl:List (Str×Addr))(C:Addr)(s:Shared)(H:Hp)(fp:List Addr):Cx:=
 { X with N:=N',s₀:=s,H₀:=H,env:=compEnvC scope cl C X.env,outer:=X.stack,ex:=fp,fn:=λ_=>false,pn:=[],xe:=λ_ _=>False }
def E2(env:Env)(n:Str)(k:NameKind):NameKind:=if (k == NameKind.free&&env.scope.kind == .function&&env.kindOf n == some .cell)=true then .cell else k
theorem jx{env:Env}:∀{names:List (Str×NameKind)} {x:Str},(names.map λ(n,k)=>if (k == NameKind.free&&env.scope.kind == .function&&env.kindOf n == some .cell) then (n,NameKind.cell) else (n,k)).lookup x=(names.lookup x).map (E2 env x)
 | [],_=>rfl
 | (n,k)::r,x=>by
   have b:=@jx env r x;rw[Be];have a:(if (k == NameKind.free&&env.scope.kind == .function&&env.kindOf n == some .cell)=true then (n,NameKind.cell) else (n,k))=(n,E2 env n k):=by
    unfold E2;split<;>rfl
   show List.lookup x ((if (k == NameKind.free&&env.scope.kind == .function&&env.kindOf n == some .cell)=true then (n,NameKind.cell) else (n,k))::_)=_;rw[a,dR,dR];by_cases e:x=n
   ·rw[if_pos e,if_pos e,e];rfl
   ·rw[if_neg e,if_neg e];exact b
structure EJ(X:Cx)(N':List Str)(ixs:List (Option Nat))(scope:Scope):Prop where
 kind:scope.kind=.function
 nocell:∀y∈scope.names,y.2≠.cell
 loc:∀y∈scope.names,y.2=.local->scope.names.lookup y.1=some .local
 len:ixs.length=N'.length
 free:∀y∈scope.names,y.2=.free->X.env.scope.names.lookup y.1=some .cell\/X.env.scope.names.lookup y.1=some .free
 slot:∀(j i:Nat) (y:Str),N'[j]?=some y->ixs[j]?=some (some i)->X.N[i]?=some y/\scope.names.lookup y=some .free
open H in
def EJ.clos(S:EJ X N' ixs scope)(I:Ad X A0 Y H s):closureFor scope X.env=pure 'v':=
 pj λy b a=>I.ok.has y.1 (S.free y b a)
open H in
def Ad.comp{t':Nat}(I:Ad X A0 Y H s)(S:EJ X N' ixs scope)(i:∀b∈fp,CS X A0 H b)(f:∀b∈fp,∃o,s.heap.get? b=some o/\∀v,o.data≠.cell v)(n:∀b o,s.heap.get? b=some o->h'.get? b=some o)(m:h'.Ns s.heap.objs.size (λ_=>none)) :
 Ad (BS X N' scope 'v' s.heap.objs.size s H fp) [] (pick Y ixs) H { s with heap:=h',toks:=t' }:=by
 have d:∀x c,'v'.lookup x=some c->X.env.cells.lookup x=some c:=λx c e=>ju _ _ x c (λ_ _ z=>absurd z 'd') e
 have a:∀x c,X.env.cells.lookup x=some c->c<s.heap.objs.size:=λx c e=>by obtain⟨v,z⟩:=I.cell x c e;exact z.lt
 have a:∀b∈fp,b<s.heap.objs.size:=λb g=>by obtain⟨o,e,_⟩:=f b g;exact Heap.lt_size e
 have f:∀x,Env.kindOf (compEnvC scope 'v' s.heap.objs.size X.env) x=(scope.names.lookup x).map (E2 X.env x):=λx=>jx
 have h:∀x,scope.names.lookup x=some .free->∃c,'v'.lookup x=some c:=λx e=>
  jw _ _ x (PySem.mem_of_lookup e) (I.ok.has x (S.free _ (PySem.mem_of_lookup e) rfl))
 have freeOf:∀x,(Env.kindOf (compEnvC scope 'v' s.heap.objs.size X.env) x=some .cell\/Env.kindOf (compEnvC scope 'v' s.heap.objs.size X.env) x=some .free)->scope.names.lookup x=some .free:=λx e=>by
  rw[f x] at e;cases q:scope.names.lookup x with
  | none=>rw[q] at e;rcases e with e | e<;>cases e
  | some k=>
    rw[q] at e;have p:=S.nocell _ (PySem.mem_of_lookup q);unfold E2 at e;rcases e with e | e
    ·have e:=Option.some.inj e
     dsimp only at e;split at e
     ·rename_i j
      have:(k == NameKind.free)=true:=by
       cases l:(k == NameKind.free) with
       | true=>rfl
       | false=>rw[l] at j;simp at j
      rw[show k=.free by simpa using this]
     ·exact absurd e p
    ·have e:=Option.some.inj e
     dsimp only at e;split at e
     ·cases e
     ·rw[e]
 refine{{I.ok.mod,S.kind,I.ok.glob,I.ok.blt,Al _,λx y c l j=>I.ok.inj x y c (d x c l) (d y c j),λx A=>h x (freeOf x A),(λ_ _ z _=>Bool.noConfusion z),I.ok.hd,I.ok.frames,.inl rfl,λb g=>{Bf (a b g),λx c e=>(i b g).2.2.2.2.1 x c (d x c e)},λb o e=>I.bs b o e,Aw I.ok.bsz I.sz,λb o e g=>?_,λb g z=>?_,I.stack,I.stkFree},rfl,I.bare,Un.kept n,{_,m,λj x v r l a=>?_},λx c e=>?_,I.hok.fresh (Al _),λx c e=>I.freeC x c (d x c e),(λp a=>absurd (show p∈([]:List 'p') from a) 'd'),I.hok.kept n,?_}
 ·-- base objects are no iterators
  have a:=i b g;rcases a.2.2.2.1 with z | z
  ·exact I.ok.noex b o e z
  ·exact absurd (A3 (Heap.lt_size (I.ok.bs b o e).1) z) (CJ _)
 ·-- iterators are no frames
  have a:=i b g;rcases AL.mp (I.stkSub b z) with e | e
  ·exact a.2.1 e
  ·exact a.2.2.1 e
 ·-- the names
  have a:(pick Y ixs)[j]?=some (some v):=l;unfold pick at a;rw[AX] at a;cases q:ixs[j]? with
  | none=>rw[q] at a;cases a
  | some o=>
    rw[q] at a;cases o with
    | none=>cases a
    | some i=>
      have b:(Y[i]?).join=some v:=Option.some.inj a;have g:Y[i]?=some (some v):=by
       cases z:Y[i]? with
       | none=>rw[z] at b;cases b
       | some a=>rw[z] at b;rw[show a=some v from b]
      obtain⟨A,a⟩:=S.slot j i x r q;obtain⟨m,_,j⟩:=I.loc;have b:Vis X.env.scope x:=by
       rcases S.free _ (PySem.mem_of_lookup a) rfl with z | z
       ·exact .inr (.inl z)
       ·exact .inr (.inr z)
      obtain⟨u,r,l⟩:=j i x v A g b;refine{u,r,.inr {?_,?_}}
      ·show Env.kindOf (compEnvC scope 'v' s.heap.objs.size X.env) x=some .cell\/Env.kindOf (compEnvC scope 'v' s.heap.objs.size X.env) x=some .free
       rw[f x,a];show some (E2 X.env x .free)=_\/some (E2 X.env x .free)=_;unfold E2;split
       ·exact .inl rfl
       ·exact .inr rfl
      ·obtain⟨c,f⟩:=h x a
       refine{c,f,?_};have b:=d x c f;rcases l with⟨k,_⟩ | ⟨_,g,f,z⟩
       ·have k':X.env.scope.names.lookup x=some .local:=k
        rcases S.free _ (PySem.mem_of_lookup a) rfl with z | z<;>(rw[show ((x,NameKind.free):Str×NameKind).1=x from rfl,k'] at z;cases z)
       ·rw[b] at f;cases f
        obtain⟨o,a,b⟩:=z;exact{o,n c o a,b}
 ·obtain⟨v,o,a,b⟩:=I.cell x c (d x c e)
  exact{v,o,n c o a,b}
 ·show (pick Y ixs).length=N'.length
  unfold pick;rw[Ai];exact S.len
def pk(I:Nat->Shared->Prop)(b:∀n s,I n s->wpAny 'r' A (pyNext it) (λr d=>match r with
  | none=>R (.ok .next) d
  | some v=>wpAny 'r' A (letOwnedTupleGo target it v) (λ_ i=>wpAny 'r' A (assign target env v) (λ_ e=>
   wpAny 'r' A (forIn ifs true λc r=>if r=true then do let j <-isTrue c env (eval c env);pure (ForInStep.yield j) else pure (ForInStep.yield r)) (λj a=>
    if j=true then wpAny 'r' A (eval elt env) (λx f=>
     wpAny 'r' A (call (.builtin "list.append") [acc,x]) (λ_ g=>∃m,m<n/\I m g) (λ_ _=>False) f) (λ_ _=>False) a
    else ∃m,m<n/\I m a) (λ_ _=>False) e) (λ_ _=>False) i) (λ_ _=>False) d) (λ_ _=>False) s)(n:Nat)(h:I n s) :
 codeAny 'r' A (.compLoop (.ListComp elt [{target,iter,ifs,0}] scope pos) 0 it acc env) R s:=by
 refine codeAny_loop rfl I (λn s l=>?_) n h;show wpAny _ A ((compTurn (.ListComp elt [{target,iter,ifs,0}] scope pos) 0 it acc env).onRaise (λx=>do noteFrame x env;theTreesLotGoes x)) _ _ s;refine wpAny_noted ?_;rw[compTurn_list];refine Ac (wpAny_standAt (Ac (Di (b n s l) (λr d c=>?_) λ_ _ b=>b.elim)));cases r with
 | none=>exact Aj c
 | some v=>
   refine Ac (Di c (λ_ i d=>Ac (Di d (λ_ e h=>Ac (Di h (λj a c=>?_) λ_ _ b=>b.elim)) λ_ _ b=>b.elim)) λ_ _ b=>b.elim);cases j with
   | false=>exact Aj ⟨rfl,c⟩
   | true=>
     exact Ac (Ac (Di c (λx f a=>Ac (Di a (λ_ g c=>Aj (Aj ⟨rfl,c⟩)) λ_ _ b=>b.elim)) λ_ _ b=>b.elim))
instance PTs(X:Cx)(ifs:List Expr)(t:TT):Prop:=
 ∀(A0:List 'p') (s:Shared) (Y:St) (H:Hp) (Q:Bool->Hp->Prop),Ad X A0 Y H s->t Y H Q->
  wpAny 'e' X.A (forIn ifs true λc r=>if r=true then do let ok <-isTrue c X.env (eval c X.env);pure (ForInStep.yield ok) else pure (ForInStep.yield r)) (TP X A0 Y Q) X.xe s
def Kn:TT:=λ_ H Q=>Q true H
def po:PTs X [] Kn:=λ_ _ _ H _ I h=>wpAny_tests_nil ⟨H,I,h⟩
def pp(h:PT X c t):PTs X [c] t:=λa s Y H Q I q=>wpAny_tests_one (h a s Y H Q I q)
def HK(wi:TI)(ixs:List (Option Nat))(g:TG)(tc:TT)(te:TE):TE:=λY H Q=>wi Y H λJ H1=>∀D,H1 D=none->
 ∃W:Nat->Nat->St->Hp->Prop,(∃m,W 0 m (pick Y ixs) (Af H1 D (.lst [])))/\∀i m Y' H',W i m Y' H'->
  (J.stop i H'/\Q (.ref D) H')\/(J.go i H'/\∃N:St->Hp->Prop,(∀Y2 H2,N Y2 H2->∃m',m' < m/\W (i+1) m' Y2 H2)/\∀x H2,J.yld i H' x H2->g x Y' H2 λY3 H3=>
   tc Y3 H3 λb H4=>if b=true then te Y3 H4 λy H5=>∃ys,H5 D=some (.lst ys)/\ys.length<sizeLine/\N Y3 (Af H5 D (.lst (ys++[y]))) else N Y3 H4)
def jy{l:List 'p'}{Y:St}{H2:Hp}{a:Shared}{G:Addr}{h:List Addr}{B:Nat->Heap->Prop}{J:It}{E:Value->Shared->Prop}{RR:Value->Addr->Result->Shared->Prop}{Q:VK}(S:EJ X N' ixs scope)(P:X.calm=true)(I2:Ad X l Y H2 a)(T:Ev X.prog X.w X.K tg J h G B)(r:B 0 a.heap)(f2:∀b∈h,CS X l H2 b)(I:∀c C s H h,PG (BS X N' scope c C s H h) tg g/\PTs (BS X N' scope c C s H h) ifs tc/\PE (BS X N' scope c C s H h) elt te)(M:∀D,H2 D=none->∃W:Nat->Nat->St->Hp->Prop,(∃m,W 0 m (pick Y ixs) (Af H2 D (.lst [])))/\∀i m s j,W i m s j->
  (J.stop i j/\Q (.ref D) j)\/(J.go i j/\∃N:St->Hp->Prop,(∀c H2,N c H2->∃L,L < m/\W (i+1) L c H2)/\∀x H2,J.yld i j x H2->g x s H2 λc H3=>
   tc c H3 λb d=>if b=true then te c d λy H5=>∃ys,H5 D=some (.lst ys)/\ys.length<sizeLine/\N c (Af H5 D (.lst (ys++[y]))) else N c d))(hR:∀(D C:Addr) (j:Hp) (s':Shared) (m:Str->Option Value),s'.heap.Ns C m->C≠X.env.locals->j C=none->X.s₀.heap.objs.size<=C->(∀x c,X.env.cells.lookup x=some c->c≠C)->(∀p∈X.pn++l,p.1≠C)->C∉X.fs->Ad X l Y j s'->Q (.ref D) j->RR (.ref D) C (.ok .next) s') :
 wpAny 'e' X.A (newList []) (λg e=>wpAny 'e' X.A (newFunctionEnv scope X.env.globals 'v' [] X.env.qual none .none (some X.env)) (λd f=>
  codeAny 'e' X.A (.compStart (.ListComp elt [{tg,iter,ifs,0}] scope pos) 0 (.ref G) g { d with scope:=relabel scope X.env }) (RR g d.locals) f) E e) E a:=by
 have J:H2 a.heap.objs.size=none:=I2.hok.fresh (Al _);refine wpAny_newObj_type ?_;have I3:Ad X l Y (Af H2 a.heap.objs.size (.lst [])) { a with heap:=a.heap.push { cls:=.type "list",dict:=none,data:=.seq ([]:List Value).toArray } }:=
  I2.lnew (ys:=[]) (its:=[]) (t':=a.toks) .nil (AR _)
 generalize g:({ a with heap:=a.heap.push { cls:=.type "list",dict:=none,data:=.seq ([]:List Value).toArray } }:Shared)=s3 at I3;have q:∀b o,a.heap.get? b=some o->s3.heap.get? b=some o:=λb o e=>by rw[<-g];exact AH _ e
 have n:s3.heap.objs.size=a.heap.objs.size+1:=by rw[<-g];exact DV _ _
 have F:wpAny 'e' X.A (newFunctionEnv scope X.env.globals 'v' [] X.env.qual none .none (some X.env)) (λd f=>
  codeAny 'e' X.A (.compStart (.ListComp elt [{tg,iter,ifs,0}] scope pos) 0 (.ref G) (.ref a.heap.objs.size) { d with scope:=relabel scope X.env }) (RR (.ref a.heap.objs.size) d.locals) f) E s3:=by
  refine wpAny_newFunctionEnv S.nocell (by intro y f;simp at f) (λn C d=>?_) S.kind;have z:∀b o,s3.heap.get? b=some o->n.get? b=some o:=λb o e=>d.extBut b o (Bf (Heap.lt_size e)) (AH _ e)
  have g:∀b∈h,∃o,a.heap.get? b=some o/\∀v,o.data≠.cell v:=T.obj 0 a.heap r;have u:∀b∈h,CS X l (Af H2 a.heap.objs.size (.lst [])) b:=λb f=>by
   obtain⟨o,e,_⟩:=g b f;exact{by rw[aj (Bf (Heap.lt_size e))];exact(f2 b f).1,(f2 b f).2}
  have I4:=I3.comp (h':=n) (t':=s3.toks+([]:List (Str×Value)).length) S u (λb f=>let ⟨o,e,d⟩:=g b f;{o,q b o e,d}) z C;have A:B 0 n:=T.keep 0 _ _ r λb _ o e=>z b o (q b o e)
  show codeAny 'e' X.A (.compStart (.ListComp elt [{tg,iter,ifs,0}] scope pos) 0 (.ref G) (.ref a.heap.objs.size) (compEnvC scope 'v' s3.heap.objs.size X.env)) (RR (.ref a.heap.objs.size) s3.heap.objs.size) { s3 with heap:=n,toks:=s3.toks+([]:List (Str×Value)).length };have l:B 0 ({ s3 with heap:=n,toks:=s3.toks+([]:List (Str×Value)).length }:Shared).heap:=A;generalize ({ s3 with heap:=n,toks:=s3.toks+([]:List (Str×Value)).length }:Shared)=s4 at I4 l ⊢;obtain⟨W,⟨r,C⟩,step⟩:=M a.heap.objs.size J;have n:∀b∈h,b<s3.heap.objs.size:=λb f=>by
   obtain⟨o,e,_⟩:=g b f;exact Heap.lt_size (q b o e)
  have g:∀{j:Hp},(∀b∈h,j b=none)->∀b∈h,CS (BS X N' scope 'v' s3.heap.objs.size s3 (Af H2 a.heap.objs.size (.lst [])) h) [] j b:=λq b f=>
   {q b f,Bf (n b f),λz=>I4.ok.exfs b f z,.inl f,(I4.ok.exf b f).2,λp M=>absurd (show p∈([]:List 'p') from M) 'd'}
  have A:codeAny 'e' X.A (.compLoop (.ListComp elt [⟨tg,iter,ifs,0⟩] scope pos) 0 (.ref G) (.ref a.heap.objs.size) (compEnvC scope 'v' s3.heap.objs.size X.env)) (RR (.ref a.heap.objs.size) s3.heap.objs.size) s4:=by
   obtain⟨hg,U,Y⟩:=I 'v' s3.heap.objs.size s3 (Af H2 a.heap.objs.size (.lst [])) h;refine pk (λn s'=>∃i s j,Ad (BS X N' scope 'v' s3.heap.objs.size s3 (Af H2 a.heap.objs.size (.lst [])) h) [] s j s'/\B i s'.heap/\(∀b∈h,j b=none)/\W i n s j) ?_ r {0,_,_,I4,l,λb f=>(u b f).1,C};rintro n Q ⟨i,I,H5,I5,C,G,r⟩;rcases step i n I H5 r with⟨E,q⟩ | ⟨Z,N,hN,J⟩
   ·refine ag (T.done (BS X N' scope 'v' s3.heap.objs.size s3 (Af H2 a.heap.objs.size (.lst [])) h) rfl rfl rfl P i [] Q I H5 (λ_ _=>False) I5 (g G) C E) λr R hI101=>?_
    obtain⟨E,I6⟩:=hI101;subst E;obtain⟨m,O,_⟩:=I6.loc;refine hR _ _ H5 R m O (Ne.symm (Bf I3.lt)) I6.free I3.sz (λx c e z=>?_) (λp M z=>?_) (I3.nofs (Al _)) (I3.call' (ch:=h) I6.os I6.base I6.hok I6.bare λb f=>{(u b f).2.2.2.1,(u b f).2.1,(u b f).2.2.2.2.1,(u b f).2.2.2.2.2}) q
    ·obtain⟨v,y⟩:=I3.cell x c e
     have:=y.lt;rw[z] at this;exact absurd this (CJ _)
    ·have:=Heap.lt_size (I3.pin p M).1
     rw[z] at this;exact absurd this (CJ _)
   ·refine ag (T.item (BS X N' scope 'v' s3.heap.objs.size s3 (Af H2 a.heap.objs.size (.lst [])) h) rfl rfl rfl P i [] Q I H5 (λ_ _=>False) I5 (g G) C Z) λr R hI102=>?_
    obtain⟨u,E,c⟩:=hI102;subst E;refine ag c λ_ z hI103=>?_
    obtain⟨x,H7,I7,r7,q,c,p⟩:=hI103;have I7':=I7.pinned (g p) (T.obj _ _ c);refine ag (hg _ z I H7 x u _ I7' r7 (J x H7 q)) λ_ g hI104=>?_
    obtain⟨u,p,I8,q8⟩:=hI104;refine ag (U _ g u p _ I8 q8) λx E hI105=>?_
    obtain⟨C,I9,q⟩:=hI105;have again:∀{r:Shared} {g:St} {p:Hp},Ad (BS X N' scope 'v' s3.heap.objs.size s3 (Af H2 a.heap.objs.size (.lst [])) h) ([]++Gc h z.heap) g p r->N g p->
     ∃m,m<n/\∃i s j,Ad (BS X N' scope 'v' s3.heap.objs.size s3 (Af H2 a.heap.objs.size (.lst [])) h) [] s j r/\B i r.heap/\(∀b∈h,j b=none)/\W i m s j:=λ{r g p} h m=>by
     obtain⟨L,O,j⟩:=hN g p m;refine{L,O,i+1,g,p,h.unpinned,T.keep _ _ _ c λb f o e=>(h.pin (b,o) (Dw _ (Dw _ (eC f e)))).1,λb f=>?_,j};obtain⟨o,e,d⟩:=T.obj _ _ c b f;exact(h.pin (b,o) (Dw _ (Dw _ (eC f e)))).2.1
    cases x with
    | false=>
      rw[if_neg 'z'] at q ⊢;exact again I9 q
    | true=>
      rw[if_pos rfl] at q ⊢;refine ag (Y _ E u C _ I9 q) λv b hI106=>?_
      obtain⟨y,c,I10,r10,ys,d,e,q10⟩:=hI106;refine ag (ge _ b u c (.ref a.heap.objs.size) [y] (.ref a.heap.objs.size) [v] (λ_ H=>N u H) I10 rfl (.cons r10 .nil) {_,ys,y,rfl,rfl,d,e,q10}) λ_ b hI107=>?_
      obtain⟨_,a,I11,_,q11⟩:=hI107;exact again I11 q11
  refine codeAny_compStart_list A (T.self _ 0 _ _ _ l A)
 exact F
def pq(S:EJ X N' ixs scope)(j:X.calm=true)(i:PI X tg iter wi)(c:∀b C s H a,PG (BS X N' scope b C s H a) tg g/\PTs (BS X N' scope b C s H a) ifs tc/\PE (BS X N' scope b C s H a) elt te)(b:autoParam (∀x,foldedSetIterable iter X.env x=pure x) z0c._auto_1) :
 PE X (.ListComp elt [⟨tg,iter,ifs,0⟩] scope pos) (HK wi ixs g tc te):=by
 intro d s Y H Q I h;rw[eval_ListComp];refine wpAny_comprehension_free (use:=none) rfl b (S.clos I) S.kind S.loc (ag (i d s Y H _ I h) λv g f=>ag f λb h e=>?_);obtain⟨g,a,f,J,H2,rfl,I2,T,b,f2,f⟩:=e;refine jy (RR:=λa C=>compPost 'e' X.A X.xe none (EP X d Y Q) a C) S j I2 T b f2 c f ?_;intro D C e s' m g h j c f d a b q;refine{m,g,λl a=>{.ref D,e,?_,rfl,q}};exact b.turned (t':=s'.toks) (λb o g e=>a.extBut b o g e) j h (.inr c) f d
open H in
def pu{i:Nat}{y:Str}(S:EJ X N' ixs scope)(m:X.calm=true)(p:X.N.Nodup)(l:X.N[i]?=some y)(f:X.env.scope.names.lookup y=some .local)(b:PI X tg iter wi)(d:∀c C s H a,PG (BS X N' scope c C s H a) tg g/\PTs (BS X N' scope c C s H a) ifs tc/\PE (BS X N' scope c C s H a) elt te)(e:swapsWith (.ListComp elt [{tg,iter,ifs,0}] scope pos) (some (.Name y py)) spos.line X.env=pure true)(j:autoParam (∀x,foldedSetIterable iter X.env x=pure x) z0c._auto_1) :
 PS X (.Assign [.Name y py] (.ListComp elt [⟨tg,iter,ifs,0⟩] scope pos) spos) (Ft (HK wi ixs g tc te) (FO i)):=by
 intro c s Y H D I h;rw[exec_Assign_Name_used _ _ _ _ e];refine Ac (wpAny_standAt (Ac ?_));show wpAny _ X.A (do let _ <-comprehension (.ListComp elt [⟨tg,iter,ifs,0⟩] scope pos) scope X.env _ (newList []) false (eval iter X.env) (some (assign (.Name y py) X.env))) _ _ s;refine Ac (Di (wpAny_comprehension_free (use:=some (assign (.Name y py) X.env)) (Q:=λ_ s'=>SP X c D .next s') rfl j (S.clos I) S.kind S.loc (ag (b c s Y H _ I h) λv j e=>ag e λb h g=>?_)) (λ_ s' b=>Aj (Aj b)) λ_ _ e=>e);obtain⟨b,a,h,J,H2,rfl,I2,T,b,f2,h⟩:=g;refine jy (Q:=λx H1=>FO i x Y H1 D.nx) (RR:=λa C=>compPost 'e' X.A X.xe (some (assign (.Name y py) X.env)) (λ_ s'=>SP X c D .next s') a C) S m I2 T b f2 d h ?_;intro a C o s' m n i j d c g b h q;show wpAny _ X.A (assign (.Name y py) X.env (.ref a)) _ _ _;refine wpAny_assign_Name (iO (v:=V.ref a) h p l (.inl f) rfl (λp I3 hI108=>?_) (.inr f));obtain⟨a,b,h⟩:=hI108;have f:C≠a:=by
  rcases h with rfl | h
  ·exact i
  ·exact λz=>c y a h z.symm
 refine{m,n.sameBut b f,λh a=>{_,o,?_,q}};exact I3.turned (t':=p.toks) (λb o f e=>a.extBut b o f e) j i (.inr d) c g
set_option genInjectivity true in
inductive D where
 | non | bl (b:Bool) | int (i:Int) | str (x:Str) | tup (l:List D) | lst (l:List D) | dct (ks vs:List D) | fl (l:List D) | fd (ks vs:List D)
def CC:As->D
 | .inl i=>.int i
 | .inr x=>.str x
def E4:Ak->D
 | .inl i=>.int i
 | .inr x=>.str x
 | .t l=>.tup (l.map CC)
def AC(k:List Ak):D:=.tup (k.map E4)
mutual
noncomputable def Is(K:FG)(A:Addr->Prop)(H:Hp):D->V->Prop
 | .non,v=>v=.non
 | .bl b,v=>v=.bl b
 | .int i,v=>v=.int i
 | .str x,v=>v=.str x
 | .tup l,v=>∃a vs,v=.ref a/\H a=some (.tup vs)/\aa K A H l vs
 | .lst l,v=>∃a vs,v=.ref a/\A a/\H a=some (.lst vs)/\aa K A H l vs
 | .dct ks l,v=>∃a vs,v=.ref a/\A a/\aa K A H l vs/\
  ((∃kk:List As,ks=kk.map CC/\kk.length=vs.length/\H a=some (.dK (kk.zip vs)))\/(∃kk:List (List Ak),ks=D.non::kk.map AC/\kk.length=vs.length/\H a=some (.dT (kk.zip vs))))
 | .fl l,v=>∃a o vs,v=.ref a/\H a=some (.frz o (.lst vs))/\aa K A H l vs
 | .fd ks l,v=>∃(a:Addr) (o:Obj) (vs:List V) (kk:List (List Ak)),v=.ref a/\ks=kk.map AC/\kk.length=vs.length/\H a=some (.frz o (.dT (kk.zip vs)))/\aa K A H l vs
noncomputable def aa(K:FG)(A:Addr->Prop)(H:Hp):List D->List V->Prop
 | [],vs=>vs=[]
 | d::l,vs=>∃v r,vs=v::r/\Is K A H d v/\aa K A H l r
end
def DL(o:HO):Prop:=(∃u,o=.tup u)\/∃ob u,o=.frz ob u
structure AW(A A':Addr->Prop)(H H':Hp):Prop where
 sty:∀b o,H b=some o->DL o->H' b=some o
 nod:∀b o,A b->H b=some o->A' b/\H' b=some o
section
variable{K:FG}{A A':Addr->Prop}{H H':Hp}
def AW.tup(k:AW A A' H H')(b:Addr)(u:List V)(h:H b=some (.tup u)):H' b=some (.tup u):=k.sty b _ h (.inl {_,rfl})
def AW.frz(k:AW A A' H H')(b:Addr)(o:Obj)(u:HO)(h:H b=some (.frz o u)):H' b=some (.frz o u):=k.sty b _ h (.inr {_,_,rfl})
mutual
theorem Is.mono(k:AW A A' H H'):∀{d:D} {v:V},Is K A H d v->Is K A' H' d v
 | .non,_,h=>h
 | .bl _,_,h=>h
 | .int _,_,h=>h
 | .str _,_,h=>h
 | .tup l,v,h=>by
   obtain⟨a,b,e,q,i⟩:=h;exact{a,b,e,k.tup a b q,aa.mono k i}
 | .lst l,v,h=>by
   obtain⟨a,b,e,n,q,i⟩:=h;exact{a,b,e,(k.nod a _ n q).1,(k.nod a _ n q).2,aa.mono k i}
 | .dct g l,v,h=>by
   obtain⟨a,b,e,n,i,q⟩:=h;refine{a,b,e,?_,aa.mono k i,?_}
   ·rcases q with⟨_,_,_,q⟩ | ⟨_,_,_,q⟩<;>exact(k.nod a _ n q).1
   ·rcases q with⟨c,d,f,q⟩ | ⟨c,d,f,q⟩
    ·exact .inl {c,d,f,(k.nod a _ n q).2}
    ·exact .inr {c,d,f,(k.nod a _ n q).2}
 | .fl l,v,h=>by
   obtain⟨a,o,b,e,q,i⟩:=h;exact{a,o,b,e,k.frz a o _ q,aa.mono k i}
 | .fd g l,v,h=>by
   obtain⟨a,o,b,c,e,d,f,q,i⟩:=h;exact{a,o,b,c,e,d,f,k.frz a o _ q,aa.mono k i}
theorem aa.mono(k:AW A A' H H'):∀{l:List D} {a:List V},aa K A H l a->aa K A' H' l a
 | [],_,h=>h
 | d::l,a,h=>by
   unfold aa at h ⊢;obtain⟨v,r,e,i,j⟩:=h;exact{v,r,e,Is.mono k i,aa.mono k j}
end
def aa.nil:aa K A H [] a↔a=[]:=by unfold aa;rfl
def aa.cons{d:D}{l:List D}{a:List V}:aa K A H (d::l) a↔∃v r,a=v::r/\Is K A H d v/\aa K A H l r:=by conv=>lhs;unfold aa
theorem aa.length:∀{l:List D} {a:List V},aa K A H l a->l.length=a.length
 | [],a,h=>by rw[aa.nil.mp h];rfl
 | d::l,a,h=>by
   obtain⟨v,r,e,_,j⟩:=aa.cons.mp h;rw[e,B1,B1,aa.length j]
theorem aa.get:∀{l:List D} {a:List V} {i:Nat} {d:D},aa K A H l a->l[i]?=some d->∃v,a[i]?=some v/\Is K A H d v
 | [],_,_,_,_,e=>by simp at e
 | x::l,a,0,d,h,e=>by
   obtain⟨v,r,e',i,_⟩:=aa.cons.mp h;simp at e;subst e e';exact⟨v,rfl,i⟩
 | x::l,a,i+1,d,h,e=>by
   obtain⟨v,r,e',_,j⟩:=aa.cons.mp h;subst e';simpa using aa.get (i:=i) j (by simpa using e)
theorem aa.append:∀{l m:List D} {b a:List V},aa K A H l b->aa K A H m a->aa K A H (l++m) (b++a)
 | [],m,b,a,h,g=>by rw[aa.nil.mp h];exact g
 | d::l,m,b,a,h,g=>by
   obtain⟨v,r,e,i,j⟩:=aa.cons.mp h;subst e;exact aa.cons.mpr {v,r++a,rfl,i,aa.append j g}
def aa.one(h:Is K A H d v):aa K A H [d] [v]:=aa.cons.mpr {v,[],rfl,h,aa.nil.mpr rfl}
theorem aa.take:∀{l:List D} {a:List V} (n:Nat),aa K A H l a->aa K A H (l.take n) (a.take n)
 | _,_,0,_=>by simp only[List.take_zero];exact aa.nil.mpr rfl
 | [],a,n+1,h=>by rw[aa.nil.mp h];simp only[List.take_nil];exact aa.nil.mpr rfl
 | d::l,a,n+1,h=>by
   obtain⟨v,r,e,i,j⟩:=aa.cons.mp h;subst e;exact aa.cons.mpr {v,r.take n,rfl,i,aa.take n j}
theorem aa.drop:∀{l:List D} {a:List V} (n:Nat),aa K A H l a->aa K A H (l.drop n) (a.drop n)
 | _,_,0,h=>by simpa only[Fp] using h
 | [],a,n+1,h=>by rw[aa.nil.mp h];simp only[List.drop_nil];exact aa.nil.mpr rfl
 | d::l,a,n+1,h=>by
   obtain⟨v,r,e,i,j⟩:=aa.cons.mp h;subst e;exact aa.drop n j
theorem aa.set:∀{l:List D} {a:List V} (n:Nat) {d:D} {v:V},aa K A H l a->Is K A H d v->aa K A H (l.set n d) (a.set n v)
 | [],a,n,d,v,h,_=>by rw[aa.nil.mp h];simp only[List.set_nil];exact aa.nil.mpr rfl
 | x::l,a,0,d,v,h,g=>by
   obtain⟨w,r,e,i,j⟩:=aa.cons.mp h;subst e;exact aa.cons.mpr ⟨v,r,rfl,g,j⟩
 | x::l,a,n+1,d,v,h,g=>by
   obtain⟨w,r,e,i,j⟩:=aa.cons.mp h;subst e;exact aa.cons.mpr {w,r.set n v,rfl,i,aa.set n j g}
end
mutual
noncomputable def D.imm:D->Bool
 | .tup l=>D.immL l
 | .lst _=>false
 | .dct _ _=>false
 | .fd _ _=>false
 | .fl l=>D.immL l
 | _=>true
noncomputable def D.immL:List D->Bool
 | []=>true
 | d::l=>D.imm d&&D.immL l
end
section
variable{K:FG}{A A':Addr->Prop}{H:Hp}
mutual
theorem Is.ofImm:∀{d:D} {v:V},d.imm=true->Is K A H d v->Is K A' H d v
 | .non,_,_,h=>h
 | .bl _,_,_,h=>h
 | .int _,_,_,h=>h
 | .str _,_,_,h=>h
 | .tup l,v,m,h=>by
   obtain⟨a,b,e,q,i⟩:=h;exact{a,b,e,q,aa.ofImm m i}
 | .lst l,v,m,_=>absurd m BQ
 | .dct _ l,v,m,_=>absurd m BQ
 | .fd _ l,v,m,_=>absurd m BQ
 | .fl l,v,m,h=>by
   obtain⟨a,o,b,e,q,i⟩:=h;exact{a,o,b,e,q,aa.ofImm m i}
theorem aa.ofImm:∀{l:List D} {a:List V},D.immL l=true->aa K A H l a->aa K A' H l a
 | [],_,_,h=>h
 | d::l,a,m,h=>by
   have b:d.imm=true/\D.immL l=true:=Fe.mp m;unfold aa at h ⊢;obtain⟨v,r,e,i,j⟩:=h;exact{v,r,e,Is.ofImm b.1 i,aa.ofImm b.2 j}
end
def Is.tup{a:Addr}{b:List V}{l:List D}(h:H a=some (.tup b))(i:aa K A H l b):Is K A H (.tup l) (.ref a):=by
 exact⟨a,b,rfl,h,i⟩
def Is.lst{a:Addr}{b:List V}{l:List D}(n:A a)(h:H a=some (.lst b))(i:aa K A H l b):Is K A H (.lst l) (.ref a):=by
 exact⟨a,b,rfl,n,h,i⟩
def Is.int_iff{i:Int}:Is K A H (.int i) v↔v=.int i:=Iff.rfl
def Is.bl_iff{i:Bool}:Is K A H (.bl i) v↔v=.bl i:=Iff.rfl
def Is.str_iff{i:Str}:Is K A H (.str i) v↔v=.str i:=Iff.rfl
def Is.non_iff:Is K A H .non v↔v=.non:=Iff.rfl
def Is.tup_iff:Is K A H (.tup l) v↔∃a b,v=.ref a/\H a=some (.tup b)/\aa K A H l b:=Iff.rfl
def Is.tup_sq(h:Is K A H (.tup l) v):∃a b,v=.ref a/\AN K H a b/\aa K A H l b:=let ⟨a,b,e,s,i⟩:=Is.tup_iff.mp h;{a,b,e,.of s,i}
def Is.lst_iff:Is K A H (.lst l) v↔∃a b,v=.ref a/\A a/\H a=some (.lst b)/\aa K A H l b:=Iff.rfl
def Is.fl_iff:Is K A H (.fl l) v↔∃a o b,v=.ref a/\H a=some (.frz o (.lst b))/\aa K A H l b:=Iff.rfl
def Is.fd_iff:Is K A H (.fd d l) v↔∃(a:Addr) (o:Obj) (b:List V) (c:List (List Ak)),v=.ref a/\d=c.map AC/\c.length=b.length/\H a=some (.frz o (.dT (c.zip b)))/\aa K A H l b:=Iff.rfl
def Is.dct_iff:Is K A H (.dct d l) v↔∃a c,v=.ref a/\A a/\aa K A H l c/\
 ((∃b:List As,d=b.map CC/\b.length=c.length/\H a=some (.dK (b.zip c)))\/(∃b:List (List Ak),d=D.non::b.map AC/\b.length=c.length/\H a=some (.dT (b.zip c)))):=Iff.rfl
instance D.asL:D->Option (List D)
 | .lst l=>some l
 | .fl l=>some l
 | _=>none
theorem Is.asL(h:Is K A H d v)(e:d.asL=some l):∃a b,v=.ref a/\Rd H a (.lst b)/\aa K A H l b/\∀(i:Addr->Prop) (f:Hp),AW A i H f->Rd f a (.lst b):=by
 cases d with
 | lst m=>
   cases e;obtain⟨a,b,g,n,c,d⟩:=Is.lst_iff.mp h;exact{a,b,g,.inl c,d,λi f k=>.inl (k.nod a _ n c).2}
 | fl m=>
   cases e;obtain⟨a,o,b,g,c,d⟩:=Is.fl_iff.mp h;exact{a,b,g,.inr ⟨o,c⟩,d,λi f k=>.inr {o,k.sty a _ c (.inr {_,_,rfl})}}
 | _=>cases e
end
structure AM where
 cls:Str
 args:List D
inductive Ap(S α:Type) where
 | ok (a:α) (st:S) | exc (x:AM) (st:S) | bad
variable{S α β γ:Type}
instance Ap.bind(r:Ap S α)(k:α->S->Ap S β):Ap S β:=match r with
 | .ok a st=>k a st
 | .exc x st=>.exc x st
 | .bad=>.bad
def Ab(r:Ap S α)(Q:α->S->Prop)(E:AM->S->Prop):Prop:=match r with
 | .ok a st=>Q a st
 | .exc x st=>E x st
 | .bad=>False
def ae:Ab (r.bind k) Q E↔Ab r (λa b=>Ab (k a b) Q E) E:=by
 cases r<;>rfl
def ak{r:Ap S α}{Q c:α->S->Prop}{E d:AM->S->Prop}(h:Ab r Q E)(f:∀a b,Q a b->c a b)(e:∀x b,E x b->d x b):Ab r c d:=by
 cases r with
 | ok a b=>exact f a b h
 | exc x b=>exact e x b h
 | bad=>exact h.elim
def Az(o:Option α)(st:S):Ap S α:=match o with
 | some a=>.ok a st
 | none=>.bad
def au{o:Option α}{c:S}{Q:α->S->Prop}{E:AM->S->Prop}:Ab (Az o c) Q E↔∃a,o=some a/\Q a c:=by
 cases o with
 | none=>constructor
         ·intro h;exact h.elim
         ·rintro ⟨a,e,_⟩;cases e
 | some a=>constructor
           ·intro h;exact⟨a,rfl,h⟩
           ·rintro ⟨b,e,q⟩;cases e;exact q
@[simp] theorem Ap.bind_ok (a:α) (st:S) (k:α->S->Ap S β):(Ap.ok a st).bind k=k a st:=rfl
structure Wd(S:Type) where
 ok:S->Hp->Prop
 mv:Addr->Prop
 h:V
 stay:∀st H H',ok st H->(∀b o,mv b->H b=some o->H' b=some o)->(∀b o,H b=some o->DL o->H' b=some o)->ok st H'
 live:∀st H b,ok st H->mv b->∃o,H b=some o/\(∀u,o≠.tup u)/\∀ob u,o≠.frz ob u
instance W0:Wd Unit:={λ_ _=>True,λ_=>False,.non,λ_ _ _ h _ _=>h,λ_ _ _ _ h=>h.elim}
inductive Sl where
 | no | bor (d:D) | own (d:D) | hnd
abbrev Ag:=List Sl
structure Dx{S:Type}(W:Wd S) where
 K:FG
 H0:Hp
 Ex:AM->S->Hp->Prop
 /-- addresses that no tree holds (a comprehension's list while it grows) -/
 av:Addr->Prop
def Ah{S:Type}(W:Wd S)(H H':Hp):Prop:=∀b o,H b=some o->¬W.mv b->H' b=some o
def Ah.refl{S:Type}{W:Wd S}{H:Hp}:Ah W H H:=λ_ _ h _=>h
def Ah.trans{S:Type}{W:Wd S}{H H1 H2:Hp}(a:Ah W H H1)(b:Ah W H1 H2):Ah W H H2:=λc o h n=>b c o (a c o h n) n
def Ah.laid{S:Type}{W:Wd S}{H:Hp}{p:Addr}{o:HO}(h:H p=none):Ah W H (Af H p o):=λb u e _=>by rw[aj (aF e h)];exact e
def Ch.ext{S:Type}{W:Wd S}{H a:Hp}(h:Ch H a):Ah W H a:=λb o e _=>h b o e
instance Ow(Y:St)(Z:Ag)(b:Addr):Prop:=∃(i:Nat) (d:D),Z[i]?=some (Sl.own d)/\Y[i]?=some (some (V.ref b))
instance Av{S:Type}{W:Wd S}(c:Dx W)(Y:St)(Z:Ag)(b:Addr):Prop:=¬W.mv b/\¬Ow Y Z b/\¬c.av b
instance Top(K:FG)(A:Addr->Prop)(H:Hp)(d:D)(a:Addr):Prop:=match d with
 | .lst l=>∃vs,H a=some (.lst vs)/\aa K A H l vs
 | .dct ks l=>∃vs,aa K A H l vs/\((∃kk:List As,ks=kk.map CC/\kk.length=vs.length/\H a=some (.dK (kk.zip vs)))\/(∃kk:List (List Ak),ks=D.non::kk.map AC/\kk.length=vs.length/\H a=some (.dT (kk.zip vs))))
 | _=>False
def Jl{S:Type}{W:Wd S}(c:Dx W)(H:Hp)(A:Addr->Prop)(ov:Option V):Sl->Prop
 | .no=>True
 | .bor d=>∃v,ov=some v/\Is c.K A H d v
 | .own d=>∃a,ov=some (.ref a)/\(¬W.mv a/\¬c.av a)/\c.H0 a=none/\Top c.K A H d a
 | .hnd=>ov=some W.h
structure Ax{S:Type}{W:Wd S}(c:Dx W)(H:Hp)(Y:St)(Z:Ag):Prop where
 len:Y.length=Z.length
 frame:∀b o,c.H0 b=some o->¬W.mv b->H b=some o
 slot:∀(i:Nat) (s:Sl),Z[i]?=some s->Jl c H (Av c Y Z) (Y[i]?).join s
 avl:∀b,c.av b->¬W.mv b/\c.H0 b=none/\∃o,H b=some o/\(∀u,o≠.tup u)/\∀ob u,o≠.frz ob u
 uniq:∀(i j:Nat) (a:Addr) (d e:D),Z[i]?=some (.own d)->Z[j]?=some (.own e)->Y[i]?=some (some (.ref a))->Y[j]?=some (some (.ref a))->i=j
section
variable{S:Type}{W:Wd S}{c:Dx W}{H H':Hp}{Y:St}{Z:Ag}{A A':Addr->Prop}
theorem Top.isTop(n:A a)(h:Top c.K A H d a):Is c.K A H d (.ref a):=by
 cases d with
 | lst l=>obtain⟨b,e,i⟩:=h;exact Is.lst n e i
 | dct d l=>obtain⟨b,i,q⟩:=h;exact Is.dct_iff.mpr ⟨a,b,rfl,n,i,q⟩
 | _=>exact h.elim
theorem Top.there(h:Top c.K A H d a):∃o,H a=some o/\(∀u,o≠.tup u)/\∀a u,o≠.frz a u:=by
 cases d with
 | lst l=>obtain⟨b,e,i⟩:=h;exact{_,e,(λu z=>by cases z),(λa u z=>by cases z)}
 | dct d l=>
   obtain⟨b,i,⟨_,_,_,q⟩ | ⟨_,_,_,q⟩⟩:=h
   ·exact{_,q,(λu z=>by cases z),(λa u z=>by cases z)}
   ·exact{_,q,(λu z=>by cases z),(λa u z=>by cases z)}
 | _=>exact h.elim
theorem Top.mono(k:AW A A' H H')(e:∀o,H a=some o->H' a=some o)(h:Top c.K A H d a):Top c.K A' H' d a:=by
 cases d with
 | lst l=>obtain⟨a,q,i⟩:=h;exact{a,e _ q,i.mono k}
 | dct d l=>
   obtain⟨a,i,⟨b,d,f,q⟩ | ⟨b,d,f,q⟩⟩:=h
   ·exact{a,i.mono k,.inl {b,d,f,e _ q}}
   ·exact{a,i.mono k,.inr {b,d,f,e _ q}}
 | _=>exact h.elim
def Ax.owOk(R:Ax c H Y Z)(h:Ow Y Z b):¬W.mv b/\c.H0 b=none/\∃o,H b=some o/\(∀u,o≠.tup u)/\∀a u,o≠.frz a u:=by
 obtain⟨i,d,g,j⟩:=h;obtain⟨a,e,n,f,t⟩:=R.slot i _ g;rw[j] at e;have e:some (V.ref b)=some (V.ref a):=e;cases e;exact⟨n.1,f,t.there⟩
def bG(d:∀b o,H b=some o->(∃u,o=.tup u)\/(∃a u,o=.frz a u)->H' b=some o)(a:∀b o,A b->H b=some o->A' b/\H' b=some o):AW A A' H H':=
 ⟨d,a⟩
def Ah.keepT{f:S}(e:Ah W H H')(g:W.ok f H)(d:∀b,A b->¬W.mv b/\A' b):AW A A' H H':=
 bG (λb o h t=>e b o h λm=>by
  obtain⟨o',a,i,j⟩:=W.live f H b g m;rw[h] at a;cases a;rcases t with⟨u,z⟩ | ⟨g,u,z⟩
  ·exact i u z
  ·exact j g u z) λb o a h=>{(d b a).2,e b o h (d b a).1}
def Ax.ext{g:S}(R:Ax c H Y Z)(d:W.ok g H)(e:Ah W H H'):Ax c H' Y Z where
 len:=R.len
 frame:=λb o h n=>e b o (R.frame b o h n) n
 avl:=λb h=>let ⟨n,z,o,a,q⟩:=R.avl b h;{n,z,o,e b o a n,q}
 uniq:=R.uniq
 slot:=λi s h=>by
  have k:AW (Av c Y Z) (Av c Y Z) H H':=e.keepT d λb a=>⟨a.1,a⟩
  have q:=R.slot i s h;cases s with
  | no=>trivial
  | bor d=>obtain⟨v,b,f⟩:=q;exact{v,b,f.mono k}
  | own d=>obtain⟨a,b,n,f,t⟩:=q;exact{a,b,n,f,t.mono k λo z=>e a o z n.1}
  | hnd=>exact q
end
instance D.mut:D->Bool
 | .lst _=>true
 | .dct _ _=>true
 | _=>false
inductive Gr where
 | R | B | F
def BH{S:Type}{W:Wd S}(c:Dx W)(g:Gr)(Y:St)(Z:Ag)(H H':Hp)(d:D)(v:V):Prop:=match g with
 | .R=>Is c.K 'w' H' d v
 | .B=>Is c.K (Av c Y Z) H' d v
 | .F=>Is c.K (Av c Y Z) H' d v/\∀a,v=.ref a->d.mut=true->H a=none
section
variable{S:Type}{W:Wd S}{c:Dx W}{H H1 H':Hp}{Y:St}{Z:Ag}{d:D}{v:V}{g:Gr}
theorem BH.toR(h:BH c g Y Z H H' d v):BH c .R Y Z H H' d v:=by
 have k:AW (Av c Y Z) 'w' H' H':={λ_ _ z _=>z,λb o a z=>⟨a.1,z⟩};cases g with
 | R=>exact h
 | B=>exact Is.mono k h
 | F=>exact Is.mono k h.1
def BH.toB(h:BH c .F Y Z H H' d v):BH c .B Y Z H H' d v:=h.1
theorem BH.imm(m:d.imm=true)(h:BH c .R Y Z H H' d v)(g:Gr):BH c g Y Z H H' d v:=by
 cases g with
 | R=>exact h
 | B=>exact Is.ofImm m h
 | F=>refine{Is.ofImm m h,λa e z=>?_}
      cases d<;>first | exact nomatch (show false=true from z) | exact nomatch (show false=true from m)
end
abbrev Fn(S:Type):=Ag->S->Ap S D
instance tD{S:Type}{W:Wd S}(c:Dx W)(g:Gr)(f:Fn S):TE:=λY H Q=>∃Z st,Ax c H Y Z/\W.ok st H/\
 Ab (f Z st) (λd st'=>∀v H',Ah W H H'->W.ok st' H'->BH c g Y Z H H' d v->Q v H') λx st'=>∀H',Ah W H H'->W.ok st' H'->c.Ex x st' H'
instance DE(X:Cx){S:Type}{W:Wd S}(c:Dx W)(g:Gr)(e:Expr)(f:Fn S):Prop:=PE X e (tD c g f)
def PE.imp{X:Cx}{e:Expr}{t a:TE}(h:PE X e t)(i:∀Y H Q,a Y H Q->t Y H Q):PE X e a:=λb s Y H Q I q=>h b s Y H Q I (i Y H Q q)
def PT.imp{X:Cx}{e:Expr}{t a:TT}(h:PT X e t)(i:∀Y H Q,a Y H Q->t Y H Q):PT X e a:=λb s Y H Q I q=>h b s Y H Q I (i Y H Q q)
def PS.imp{X:Cx}{e:Stmt}{t a:TS}(h:PS X e t)(i:∀D Y H,a D Y H->t D Y H):PS X e a:=λb s Y H D I q=>h b s Y H D I (i D Y H q)
def Cm.imp{X:Cx}{e:List Stmt}{t a:TS}(h:Cm X e t)(i:∀D Y H,a D Y H->t D Y H):Cm X e a:=λb s Y H D I q=>h b s Y H D I (i D Y H q)
section
variable{S:Type}
end
end L2
namespace L2
instance Go{S:Type}{W:Wd S}(c:Dx W)(g:Gr)(Y:St)(f:Fn S)(H:Hp)(Q:VK)(Z:Ag)(st:S):Prop:=
 Ab (f Z st) (λd st'=>∀v H',Ah W H H'->W.ok st' H'->BH c g Y Z H H' d v->Q v H') λx st'=>∀H',Ah W H H'->W.ok st' H'->c.Ex x st' H'
section
variable{S:Type}{W:Wd S}{c:Dx W}{H H1 H':Hp}{Y:St}{Z:Ag}{d:D}{v:V}{g g':Gr}{st st1:S}
theorem Ah.none(e:Ah W H H1)(f:W.ok st H1){a:Addr}(h:H1 a=none):H a=none:=by
 cases q:H a with
 | none=>rfl
 | some o=>
   have n:¬W.mv a:=λm=>by obtain⟨o',b,_⟩:=W.live st H1 a f m;rw[h] at b;cases b
   rw[e a o q n] at h;cases h
theorem BH.back(e:Ah W H H1)(b:W.ok st H1)(h:BH c g Y Z H1 H' d v):BH c g Y Z H H' d v:=by
 cases g with
 | R=>exact h
 | B=>exact h
 | F=>exact{h.1,λa f m=>e.none b (h.2 a f m)}
def BH.ext(e:Ah W H' H1)(a:W.ok st H')(h:BH c .R Y Z H H' d v):BH c .R Y Z H H1 d v:=Is.mono (e.keepT a λb n=>⟨n,n⟩) h
def Is.ext{A:Addr->Prop}(e:Ah W H' H1)(a:W.ok st H')(f:∀b,A b->¬W.mv b)(h:Is c.K A H' d v):Is c.K A H1 d v:=Is.mono (e.keepT a λb n=>{f b n,n}) h
def aa.ext{A:Addr->Prop}{l:List D}{a:List V}(e:Ah W H' H1)(f:W.ok st H')(i:∀b,A b->¬W.mv b)(h:aa c.K A H' l a):aa c.K A H1 l a:=aa.mono (e.keepT f λb n=>{i b n,n}) h
def Go.from{f:Fn S}{Q:VK}(e:Ah W H H1)(i:W.ok st1 H1)(h:Go c g Y f H Q Z st):Go c g Y f H1 Q Z st:=
 ak h (λd f q v H' a b z=>q v H' (e.trans a) b (z.back e i)) λx f q H' a b=>q H' (e.trans a) b
def Go.bind{f:Fn S}{k:D->Fn S}{Q:VK}(R:Ax c H Y Z)(a:W.ok st H)(h:Go c g Y (λZ st=>(f Z st).bind λd st1=>k d Z st1) H Q Z st) :
 tD c g' f Y H λv H1=>∃d st1,Ax c H1 Y Z/\W.ok st1 H1/\Ah W H H1/\BH c g' Y Z H H1 d v/\Go c g Y (k d) H1 Q Z st1:=by
 refine{Z,st,R,a,?_};have b:=ae.mp h;refine ak b (λd st1 q v H1 e f z=>?_) λx st1 q=>q
 exact{d,st1,R.ext a e,f,e,z,ak q (λd' h q v' H' a b y=>q v' H' (e.trans a) b (y.back e f)) λx h q H' a b=>q H' (e.trans a) b}
def Go.done(h:Go c g Y (λ_ st=>Az o st) H Q Z st)(a:W.ok st H):∃d,o=some d/\∀v H',Ah W H H'->W.ok st H'->BH c g Y Z H H' d v->Q v H':=by
 obtain⟨d,e,q⟩:=au.mp h;exact⟨d,e,q⟩
def AE{S:Type}{W:Wd S}(c:Dx W)(H H':Hp)(d:D)(v:V):Prop:=Is c.K (λb=>¬W.mv b/\H b=none) H' d v
theorem AE.valF(R:Ax c H Y Z)(h:AE c H H' d v):BH c .F Y Z H H' d v:=by
 have k:AW (λb=>¬W.mv b/\H b=Option.none) (Av c Y Z) H' H':={λ_ _ z _=>z,λb o a z=>{{a.1,(λw=>by
  obtain⟨_,_,o',e,_⟩:=R.owOk w;rw[a.2] at e;cases e),λw=>by
  obtain⟨_,_,o',e,_⟩:=R.avl b w;rw[a.2] at e;cases e},z}}
 refine{Is.mono k h,λa e m=>?_};subst e;cases d with
 | lst l=>obtain⟨b,a,e,n,_⟩:=Is.lst_iff.mp h;cases e;exact n.2
 | dct f l=>obtain⟨b,a,e,n,_⟩:=Is.dct_iff.mp h;cases e;exact n.2
 | _=>exact nomatch (show false=true from m)
theorem AE.val(R:Ax c H Y Z)(h:AE c H H' d v)(g:Gr):BH c g Y Z H H' d v:=by
 cases g with
 | R=>exact(h.valF R).toR
 | B=>exact(h.valF R).toB
 | F=>exact h.valF R
def AE.imm(m:d.imm=true)(h:Is c.K A H' d v):AE c H H' d v:=Is.ofImm m h
def aY(a:W.ok st H)(h:H p=none):W.ok st (Af H p o):=W.stay st H _ a (λb u _ e=>by rw[aj (aF e h)];exact e) λb u e _=>by rw[aj (aF e h)];exact e
def bH{p:Addr}(b:W.ok st H)(h:H p=none):¬W.mv p:=λm=>by
 obtain⟨o',a,_⟩:=W.live st H p b m;rw[h] at a;cases a
def AE.tup{p:Addr}{l:List D}{a:List V}{A:Addr->Prop}(e:W.ok st H)(h:H p=none)(f:∀b,A b->¬W.mv b)(m:D.immL l=true)(i:aa c.K A H l a):AE c H (Af H p (.tup a)) (.tup l) (.ref p):=
 Is.tup aw (aa.ofImm m (i.ext (Ah.laid h) e f))
def AE.lst{p:Addr}{l:List D}{a:List V}{A:Addr->Prop}(e:W.ok st H)(h:H p=none)(f:∀b,A b->¬W.mv b)(m:D.immL l=true)(i:aa c.K A H l a):AE c H (Af H p (.lst a)) (.lst l) (.ref p):=
 Is.lst {bH e h,h} aw (aa.ofImm m (i.ext (Ah.laid h) e f))
end
section
variable{X:Cx}{S:Type}{W:Wd S}{c:Dx W}{g:Gr}
instance fC(S:Type)(d:D):Fn S:=λ_ st=>.ok d st
def pC{i j pos}:DE X c g (.Constant (.int i) j pos) (fC S (.int i)):=bd.imp λY H Q ⟨Z,b,R,a,w⟩=>w _ _ Ah.refl a (AE.val R (show AE c H H (.int _) (.int _) from Is.int_iff.mpr rfl) g)
def pD{i j pos}:DE X c g (.Constant (.bool i) j pos) (fC S (.bl i)):=nK.imp λY H Q ⟨Z,b,R,a,w⟩=>w _ _ Ah.refl a (AE.val R (show AE c H H (.bl _) (.bl _) from Is.bl_iff.mpr rfl) g)
def pE{j pos}:DE X c g (.Constant .none j pos) (fC S .non):=nL.imp λY H Q ⟨Z,b,R,a,w⟩=>w _ _ Ah.refl a (AE.val R (show AE c H H .non .non from Is.non_iff.mpr rfl) g)
def pF{x j pos}:DE X c g (.Constant (.str x) j pos) (fC S (.str x)):=bR.imp λY H Q ⟨Z,b,R,a,w⟩=>w _ _ Ah.refl a (AE.val R (show AE c H H (.str _) (.str _) from Is.str_iff.mpr rfl) g)
instance rd(Z:Ag)(i:Nat):Option D:=match Z[i]? with
 | some (.bor d)=>some d
 | some (.own d)=>some d
 | _=>none
instance kp(Z:Ag)(i:Nat):Option D:=match Z[i]? with
 | some (.bor d)=>some d
 | _=>none
instance im(o:Option D):Option D:=o.bind λd=>if d.imm=true then some d else none
instance fV(S:Type)(i:Nat):Fn S:=λZ st=>Az (rd Z i) st
instance fVk(S:Type)(i:Nat):Fn S:=λZ st=>Az (kp Z i) st
theorem Ax.rd{H:Hp}{Y:St}{Z:Ag}{i:Nat}{d:D}(R:Ax c H Y Z)(h:L2.rd Z i=some d):∃v,Y[i]?=some (some v)/\Is c.K 'w' H d v:=by
 unfold L2.rd at h;have j:∀{o:Option (Option V)} {v:V},o.join=some v->o=some (some v):=λ{o v} e=>by cases o with
  | none=>cases e
  | some a=>rw[show a=some v from e]
 cases q:Z[i]? with
 | none=>rw[q] at h;cases h
 | some s=>
   rw[q] at h;have z:=R.slot i s q;cases s with
   | no=>cases h
   | hnd=>cases h
   | bor e=>
     cases h;obtain⟨v,d,b⟩:=z;exact{v,j d,b.mono {λ_ _ z _=>z,λb o a z=>⟨a.1,z⟩}}
   | own e=>
     cases h;obtain⟨a,d,n,f,t⟩:=z;exact{_,j d,(t.mono (A':=λb=>¬W.mv b) {λ_ _ z _=>z,λb o a z=>⟨a.1,z⟩} λo z=>z).isTop n.1}
theorem Ax.kp{H:Hp}{Y:St}{Z:Ag}{i:Nat}{d:D}(R:Ax c H Y Z)(h:L2.kp Z i=some d):∃v,Y[i]?=some (some v)/\Is c.K (Av c Y Z) H d v:=by
 unfold L2.kp at h;cases q:Z[i]? with
 | none=>rw[q] at h;cases h
 | some s=>
   rw[q] at h;have z:=R.slot i s q;cases s with
   | no=>cases h
   | hnd=>cases h
   | own e=>cases h
   | bor e=>
     cases h;obtain⟨v,b,a⟩:=z;refine{v,?_,a};cases w:Y[i]? with
     | none=>rw[w] at b;cases b
     | some a=>rw[w] at b;rw[show a=some v from b]
def gj{i:Nat}{x:Str}{pos:Pos}(h:PE X (.Name x pos) (BA i)):DE X c .R (.Name x pos) (fV S i):=h.imp λY H Q hI3=>by
 obtain⟨Z,b,R,a,w⟩:=hI3;obtain⟨d,e,q⟩:=au.mp w;obtain⟨v,d,b⟩:=R.rd e;exact{v,d,q v H Ah.refl a b}
def jz{i:Nat}{x:Str}{pos:Pos}(h:PE X (.Name x pos) (BA i)):DE X c .B (.Name x pos) (fVk S i):=h.imp λY H Q hI4=>by
 obtain⟨Z,b,R,a,w⟩:=hI4;obtain⟨d,e,q⟩:=au.mp w;obtain⟨v,d,b⟩:=R.kp e;exact{v,d,q v H Ah.refl a b}
instance fI(S:Type)(f:Fn S):Fn S:=λZ st=>(f Z st).bind λd st1=>if d.imm=true then .ok d st1 else .bad
def DE.imm(h:DE X c .R e f)(g:Gr):DE X c g e (fI S f):=h.imp λY H Q hI5=>by
 obtain⟨Z,b,R,a,w⟩:=hI5;refine{Z,b,R,a,ak (ae.mp w) (λd a q v H1 e b z=>?_) λx a q=>q};by_cases m:d.imm=true
 ·rw[if_pos m] at q
  exact q v H1 e b (z.imm m g)
 ·rw[if_neg m] at q
  exact q.elim
def Bg{S:Type}{W:Wd S}(c:Dx W)(r:R2)(o:D->D->Option D):Prop:=∀d1 d2 v1 v2 H (st:S) d Q,W.ok st H->Is c.K 'w' H d1 v1->Is c.K 'w' H d2 v2->o d1 d2=some d->
 (∀v H',Ah W H H'->W.ok st H'->AE c H H' d v->Q v H')->r v1 v2 H Q
instance f2(S:Type)(o:D->D->Option D)(f1 f2:Fn S):Fn S:=λZ st=>(f1 Z st).bind λd1 st1=>(f2 Z st1).bind λd2 st2=>Az (o d1 d2) st2
def bi(h:tD c g f Y H Q)(i:∀v e,Q v e->Q' v e):tD c g f Y H Q':=by
 obtain⟨Z,b,R,a,w⟩:=h;exact{Z,b,R,a,ak w (λd f q v e a b z=>i v e (q v e a b z)) λx f q=>q}
def cE(p:Bg c r o)(h:tD c g (f2 S o fa fb) Y H Q):tOp r (tD c ga fa) (tD c gb fb) Y H Q:=by
 obtain⟨Z,d,R,e,w⟩:=h;have w:Go c g Y (λZ d=>(fa Z d).bind λj b=>(λZ b=>(fb Z b).bind λh a=>Az (o j h) a) Z b) H Q Z d:=w;refine bi (Go.bind (g':=ga) R e w) λn H1 hI109=>?_
 obtain⟨j,b,e,i,l,m,d⟩:=hI109;refine bi (Go.bind (g':=gb) (f:=fb) (k:=λh _ a=>Az (o j h) a) e i d) λr H2 hI110=>?_
 obtain⟨h,a,R2,b,o,l,s⟩:=hI110;obtain⟨d,e,q⟩:=Go.done s b;exact p j h n r H2 a d Q b (m.toR.ext o i) l.toR e λv d a b n=>q v d a b (n.val R2 g)
def jA{d:Operator}{r:R2}{o:D->D->Option D}{a b:Expr}{pos:Pos}{e f:Fn S}{ga gb:Gr}(h:AU X (binaryOp d) r)(j:Bg c r o)(i:DE X c ga a e)(l:DE X c gb b f):DE X c g (.BinOp a d b pos) (f2 S o e f):=
 (aX h i l).imp λY H Q h=>cE j h
def pG(d:AU X (compareOp op) r)(e:Bg c r o)(h:DE X c ga a fa)(f:DE X c gb b fb)(i:behindInMarks op b=false):DE X c g (.Compare a [op] [b] pos) (f2 S o fa fb):=
 (om d h f i).imp λY H Q h=>cE e h
def gk{r:R2}{o:D->D->Option D}{a b:Expr}{pos:Pos}{d e:Fn S}{ga gb:Gr}(f:IxR X r)(i:Bg c r o)(h:DE X c ga a d)(j:DE X c gb b e)(l:Gd b):DE X c g (.Subscript a b pos) (f2 S o d e):=
 (f8 f h j l).imp λY H Q h=>cE i h
abbrev AV(S:Type):=Ag->S->Ap S Bool
instance tDT{S:Type}{W:Wd S}(c:Dx W)(f:AV S):TT:=λY H Q=>∃Z st,Ax c H Y Z/\W.ok st H/\
 Ab (f Z st) (λb st'=>∀H',Ah W H H'->W.ok st' H'->Q b H') λx st'=>∀H',Ah W H H'->W.ok st' H'->c.Ex x st' H'
instance DT(X:Cx){S:Type}{W:Wd S}(c:Dx W)(e:Expr)(f:AV S):Prop:=PT X e (tDT c f)
instance D.bool?:D->Option Bool
 | .bl b=>some b
 | _=>none
instance fB(S:Type)(f:Fn S):AV S:=λZ st=>(f Z st).bind λd st1=>Az d.bool? st1
def dU(h:tDT c (fB S f) Y H Q):tB (tD c g f) Y H Q:=by
 obtain⟨Z,b,R,a,w⟩:=h;refine{Z,b,R,a,ak (ae.mp w) (λd a q v H1 e f z=>?_) λx a q=>q};obtain⟨b,h,q⟩:=au.mp q;cases d with
 | bl k=>
   cases h;have z':Is c.K 'w' H1 (.bl b) v:=z.toR;exact{_,Is.bl_iff.mp z',q H1 e f}
 | _=>cases h
def pH{e:Expr}{f:Fn S}(h:DE X c g e f)(b:autoParam (∀a,isTrue e X.env a=(do let v <-a;standAt e.pos;holding [v] (truthy v))) z0c._auto_1):DT X c e (fB S f):=
 (nN h b).imp λY H Q q=>dU q
def eI{f:CmpOp}{r:R2}{o:D->D->Option D}{a b:Expr}{pos:Pos}{d e:Fn S}{ga gb:Gr}(i:AU X (compareOp f) r)(j:Bg c r o)(m:DE X c ga a d)(h:DE X c gb b e)(l:behindInMarks f b=false):DT X c (.Compare a [f] [b] pos) (fB S (f2 S o d e)):=
 (fX i m h l).imp λY H Q q=>by
  have a:tB (tD c .R (f2 S o d e)) Y H Q:=dU q;exact cE (ga:=ga) (gb:=gb) j a
def HL(S:Type)(f1 f2:AV S):AV S:=λZ st=>(f1 Z st).bind λb st1=>if b=true then f2 Z st1 else .ok false st1
instance fOr(S:Type)(f1 f2:AV S):AV S:=λZ st=>(f1 Z st).bind λb st1=>if b=true then .ok true st1 else f2 Z st1
def HM(S:Type)(f1:AV S):AV S:=λZ st=>(f1 Z st).bind λb st1=>.ok (!b) st1
instance DW(X:Cx){S:Type}{W:Wd S}(c:Dx W)(e:Expr)(f:AV S):Prop:=PW X e (tDT c f)
def PW.imp{X:Cx}{e:Expr}{t a:TT}(h:PW X e t)(i:∀Y H Q,a Y H Q->t Y H Q):PW X e a:=λw b s Y H Q I q=>h w b s Y H Q I (i Y H Q q)
def DW.dt{e:Expr}{f:AV S}(h:DW X c e f):DT X c e f:=PW.pt h
def wg{a:Expr}{pos:Pos}{f:AV S}(h:DT X c a f):DW X c (.BoolOp .And [a] pos) f:=pw_and1 h
def pI{a:Expr}{pos:Pos}{f:AV S}(h:DT X c a f):DW X c (.BoolOp .Or [a] pos) f:=pw_or1 h
def wj{a b:Expr}{d:List Expr}{pos:Pos}{e f2:AV S}(h:DT X c a e)(f:DW X c (.BoolOp .And (b::d) pos) f2):DW X c (.BoolOp .And (a::b::d) pos) (HL S e f2):=
 (pw_and h f).imp λY H Q hI6=>by
  obtain⟨Z,a,R,f,w⟩:=hI6;refine{Z,a,R,f,ak (ae.mp w) (λb a q H1 e d=>?_) λx a q=>q};cases b with
  | true=>exact{Z,a,R.ext f e,d,ak q (λb a q H2 f=>q H2 (e.trans f)) λx a q H2 f=>q H2 (e.trans f)}
  | false=>exact q H1 e d
def pJ{a b:Expr}{d:List Expr}{pos:Pos}{e f2:AV S}(h:DT X c a e)(f:DW X c (.BoolOp .Or (b::d) pos) f2):DW X c (.BoolOp .Or (a::b::d) pos) (fOr S e f2):=
 (pw_or h f).imp λY H Q hI7=>by
  obtain⟨Z,a,R,f,w⟩:=hI7;refine{Z,a,R,f,ak (ae.mp w) (λb a q H1 e d=>?_) λx a q=>q};cases b with
  | false=>exact{Z,a,R.ext f e,d,ak q (λb a q H2 f=>q H2 (e.trans f)) λx a q H2 f=>q H2 (e.trans f)}
  | true=>exact q H1 e d
def wm{a:Expr}{pos:Pos}{b:AV S}(d:DT X c a b):DT X c (.UnaryOp .Not a pos) (HM S b):=
 (nO d).imp λY H Q ⟨Z,b,R,a,w⟩=>{Z,b,R,a,ak (ae.mp w) (λb a q H1 e d=>q H1 e d) λx a q=>q}
abbrev A5(S:Type):=Ag->S->Ap S (List D)
instance tDA{S:Type}{W:Wd S}(c:Dx W)(f:A5 S):TA:=λY H Q=>∃Z st,Ax c H Y Z/\W.ok st H/\
 Ab (f Z st) (λl st'=>∀vs H',Ah W H H'->W.ok st' H'->aa c.K 'w' H' l vs->Q vs H') λx st'=>∀H',Ah W H H'->W.ok st' H'->c.Ex x st' H'
instance DA(X:Cx){S:Type}{W:Wd S}(c:Dx W)(es:List Expr)(f:A5 S):Prop:=PA X es (tDA c f)
def PA.imp(h:PA X e t)(i:∀Y H Q,t' Y H Q->t Y H Q):PA X e t':=λp a s Y H Q I q=>h p a s Y H Q I (i Y H Q q)
def G6(S:Type):A5 S:=λ_ st=>.ok [] st
def CD(S:Type)(f:Fn S)(r:A5 S):A5 S:=λZ st=>(f Z st).bind λd st1=>(r Z st1).bind λl st2=>.ok (d::l) st2
def pK:DA X c [] (G6 S):=bu.imp λY H Q ⟨Z,b,R,a,w⟩=>w [] H Ah.refl a (aa.nil.mpr rfl)
def bj{e:Expr}{es:List Expr}{f:Fn S}{r:A5 S}(h:DE X c g e f)(a:DA X c es r)(b:autoParam 's' uR):DA X c (e::es) (CD S f r):=
 (bp h a b).imp λY H Q hI8=>by
  obtain⟨Z,a,R,f,w⟩:=hI8;refine{Z,a,R,f,ak (ae.mp w) (λd a q v H1 e b z=>?_) λx a q=>q};refine{Z,a,R.ext f e,b,ak (ae.mp q) (λl f q h H2 d a i=>?_) λx f q H2 d a=>q H2 (e.trans d) a};exact q (v::h) H2 (e.trans d) a (aa.cons.mpr {v,h,rfl,z.toR.ext d b,i})
instance fA(S:Type)(o:List D->Option D)(f:A5 S):Fn S:=λZ st=>(f Z st).bind λl st1=>Az (o l) st1
def Cp{S:Type}{W:Wd S}(c:Dx W)(r:List V->Hp->VK->Prop)(o:List D->Option D):Prop:=∀l vs H (st:S) d Q,W.ok st H->aa c.K 'w' H l vs->o l=some d->
 (∀v H',Ah W H H'->W.ok st H'->AE c H H' d v->Q v H')->r vs H Q
def gl(b:Cp c r o)(h:tD c g (fA S o f) Y H Q):tDA c f Y H λi H1=>r i H1 Q:=by
 obtain⟨Z,a,R,j,w⟩:=h;refine{Z,a,R,j,ak (ae.mp w) (λl a q i H1 e f z=>?_) λx a q=>q};obtain⟨d,h,q⟩:=au.mp q;exact b l i H1 a d Q f z h λv l a b n=>q v l (e.trans a) b ((n.val (R.ext j e) g).back e f)
def A6(l:List D):Option D:=if D.immL l=true/\l.length<=sizeLine then some (.tup l) else none
def B6(l:List D):Option D:=if D.immL l=true/\l.length<=sizeLine then some (.lst l) else none
open H in
def pL:Cp c (λf H1 Q=>f.length<=sizeLine/\∀p,H1 p=none->Q (.ref p) (Af H1 p (.tup f))) A6:=by
 intro l a H h d Q b z e q;unfold A6 at e;split at e
 ·rename_i h
  cases e;exact{by rw[<-z.length];exact h.2,λp a=>q _ _ (Ah.laid a) (aY b a) (AE.tup b a (λ_ n=>n) h.1 z)}
 ·cases e
open H in
def pM:Cp c (λf H1 Q=>f.length<=sizeLine/\∀p,H1 p=none->Q (.ref p) (Af H1 p (.lst f))) B6:=by
 intro l a H h d Q b z e q;unfold B6 at e;split at e
 ·rename_i h
  cases e;exact{by rw[<-z.length];exact h.2,λp a=>q _ _ (Ah.laid a) (aY b a) (AE.lst b a (λ_ n=>n) h.1 z)}
 ·cases e
def pN{es:List Expr}{x1}{pos:Pos}{f:A5 S}(h:DA X c es f):DE X c g (.Tuple es x1 pos) (fA S A6 f):=(ou h).imp λY H Q q=>gl (g:=g) pL q
def pO{es:List Expr}{pos:Pos}{f:A5 S}(h:DA X c es f):DE X c g (.List es pos) (fA S B6 f):=(fY h).imp λY H Q q=>gl (g:=g) pM q
def jB{id:String}{x:Str}(h:PE X (.Call (.Name x p) (e::es) [] pos) (tCB r t))(b:t=tDA c f)(a:Cp c r o):DE X c g (.Call (.Name x p) (e::es) [] pos) (fA S o f):=
 h.imp λY H Q q=>by rw[b];exact gl (g:=g) a q
instance sp0(K:FG)(F:List D->Ap Unit D):Sp:=λvs H Q _=>∃l,aa K (λ_=>True) H l vs/\Ab (F l) (λd _=>∀v H',Ch H H'->Is K (λb=>H b=none) H' d v->Q v H') λ_ _=>False
instance spS{S:Type}(W:Wd S)(K:FG)(F:List D->S->Ap S D):Sp:=λvs H Q _=>∃l us st,vs=W.h::us/\aa K 'w' H l us/\W.ok st H/\
 Ab (F l st) (λd st'=>∀v H',Ah W H H'->W.ok st' H'->Is K (λb=>¬W.mv b/\H b=none) H' d v->Q v H') λ_ _=>False
def G7(S:Type)(F:List D->Ap Unit D)(f:A5 S):Fn S:=λZ st=>(f Z st).bind λl st1=>match F l with
 | .ok d _=>.ok d st1
 | _=>.bad
def pP(h:tD c g (G7 S F f) Y H Q):HH (sp0 c.K F) [] E (tDA c f) Y H Q:=by
 obtain⟨Z,st,R,ok,w⟩:=h;refine{Z,st,R,ok,ak (ae.mp w) (λl st1 q vs H1 e ok1 z=>?_) λx st1 q=>q};show sp0 c.K F (vs++[]) H1 Q E;rw[C8];refine{l,aa.mono (A:=λb=>¬W.mv b) {λ_ _ z _=>z,λb o a z=>⟨trivial,z⟩} z,?_};cases q':F l with
 | ok d u=>
   rw[q'] at q;intro v H' s n;have okH:W.ok st1 H':=W.stay st1 H1 H' ok1 (λb o _ hb=>s b o hb) λb o hb _=>s b o hb
   have n':AE c H1 H' d v:=Is.mono (A:=λb=>H1 b=none) {λ_ _ z _=>z,λb o a z=>{{bH ok1 a,a},z}} n;exact q v H' (e.trans s.ext) okH ((n'.val (R.ext ok e) g).back e ok1)
 | exc x u=>rw[q'] at q;exact q.elim
 | bad=>rw[q'] at q;exact q.elim
def Gg(S:Type)(F:List D->S->Ap S D)(i:Nat)(f:A5 S):Fn S:=λZ st=>match Z[i]? with
 | some .hnd=>(f Z st).bind λl st1=>match F l st1 with
   | .ok d st2=>.ok d st2
   | _=>.bad
 | _=>.bad
def pQ{i:Nat}(h:tD c g (Gg S F i f) Y H Q):HH (spS W c.K F) [] E (Jd (BA i) (tDA c f)) Y H Q:=by
 obtain⟨Z,st,R,ok,w⟩:=h;unfold Gg at w;cases hi:Z[i]? with
 | none=>rw[hi] at w;exact w.elim
 | some s=>
   rw[hi] at w;have zs:=R.slot i s hi;cases s with
   | no=>exact w.elim
   | bor d=>exact w.elim
   | own d=>exact w.elim
   | hnd=>
     have zs:(Y[i]?).join=some W.h:=zs;have ei:Y[i]?=some (some W.h):=by
      cases q:Y[i]? with
      | none=>rw[q] at zs;cases zs
      | some a=>rw[q] at zs;rw[show a=some W.h from zs]
     refine{W.h,ei,Z,st,R,ok,ak (ae.mp w) (λl st1 q vs H1 e ok1 z=>?_) λx st1 q=>q};show spS W c.K F ((W.h::vs)++[]) H1 Q E;rw[C8];refine{l,vs,st1,rfl,z,ok1,?_};cases q':F l st1 with
     | ok d st2=>
       rw[q'] at q;intro v H' s okH n;exact q v H' (e.trans s) okH ((AE.val (R.ext ok e) n g).back e ok1)
     | exc x u=>rw[q'] at q;exact q.elim
     | bad=>rw[q'] at q;exact q.elim
end
inductive Fl where
 | nx (Z:Ag) | rt (d:D) | bk (Z:Ag) | ct (Z:Ag)
abbrev Ay(S:Type):=Ag->S->Ap S Fl
structure Bb{S:Type}{W:Wd S}(c:Dx W)(H:Hp)(Y:St)(Z:Ag)(H':Hp)(Y':St)(Z':Ag):Prop where
 keep:∀b o,H b=some o->¬W.mv b->¬Ow Y Z b->H' b=some o
 own:∀b o,H b=some o->¬W.mv b->Ow Y' Z' b->Ow Y Z b
instance F0{S:Type}{W:Wd S}(c:Dx W)(H':Hp):Prop:=∀b o,c.H0 b=some o->¬W.mv b->H' b=some o
instance Nx{S:Type}{W:Wd S}(c:Dx W)(Q:St->Hp->Prop)(Y:St)(Z:Ag)(H:Hp)(Z':Ag)(st':S):Prop:=∀Y' H',Bb c H Y Z H' Y' Z'->W.ok st' H'->Ax c H' Y' Z'->Q Y' H'
instance Rt{S:Type}{W:Wd S}(c:Dx W)(Q:VK)(d:D)(st':S):Prop:=∀v H',F0 c H'->W.ok st' H'->Is c.K (λb=>¬W.mv b/\c.H0 b=none) H' d v->Q v H'
def CT{S:Type}{W:Wd S}(c:Dx W)(D:Dm)(Y:St)(Z:Ag)(H:Hp)(fl:Fl)(st':S):Prop:=match fl with
 | .nx Z'=>Nx c D.nx Y Z H Z' st'
 | .bk Z'=>Nx c D.bk Y Z H Z' st'
 | .ct Z'=>Nx c D.ct Y Z H Z' st'
 | .rt d=>Rt c D.rt d st'
def Dd{S:Type}{W:Wd S}(c:Dx W)(x:AM)(st':S):Prop:=∀H',F0 c H'->W.ok st' H'->c.Ex x st' H'
instance tS{S:Type}{W:Wd S}(c:Dx W)(F:Ay S):TS:=λD Y H=>∃Z st,Ax c H Y Z/\W.ok st H/\Ab (F Z st) (CT c D Y Z H) (Dd c)
instance DS(X:Cx){S:Type}{W:Wd S}(c:Dx W)(s:Stmt)(F:Ay S):Prop:=PS X s (tS c F)
def CM(X:Cx){S:Type}{W:Wd S}(c:Dx W)(s:List Stmt)(F:Ay S):Prop:=Cm X s (tS c F)
section
variable{S:Type}{W:Wd S}{c:Dx W}{H H1 H2 H':Hp}{Y Y1 Y2 Y':St}{Z Z1 Z2 Z':Ag}{st st1:S}
def Bb.refl:Bb c H Y Z H Y Z:={λ_ _ h _ _=>h,λ_ _ _ _ h=>h}
def Bb.trans(a:Bb c H Y Z H1 Y1 Z1)(b:Bb c H1 Y1 Z1 H2 Y2 Z2):Bb c H Y Z H2 Y2 Z2 where
 keep:=λx o h m w=>b.keep x o (a.keep x o h m w) m λd=>w (a.own x o h m d)
 own:=λx o h m w=>by
  by_cases d:Ow Y Z x
  ·exact d
  ·exact a.own x o h m (b.own x o (a.keep x o h m d) m w)
def Ah.frm(e:Ah W H H'):Bb c H Y Z H' Y Z:={λb o h m _=>e b o h m,λ_ _ _ _ h=>h}
def Ah.f0(R:Ax c H Y Z)(e:Ah W H H'):F0 c H':=λb o h n=>e b o (R.frame b o h n) n
def Nx.from{Q:St->Hp->Prop}(h:Nx c Q Y Z H Z' st)(f:Bb c H Y Z H1 Y1 Z1):Nx c Q Y1 Z1 H1 Z' st:=λY' H' g a R=>h Y' H' (f.trans g) a R
theorem CT.from{D:Dm}{a:Fl}(h:CT c D Y Z H a st)(f:Bb c H Y Z H1 Y1 Z1):CT c D Y1 Z1 H1 a st:=by
 cases a with
 | nx r=>exact Nx.from h f
 | bk r=>exact Nx.from h f
 | ct r=>exact Nx.from h f
 | rt d=>exact h
def Bb.keepT(R:Ax c H Y Z)(e:W.ok st H)(f:Bb c H Y Z H' Y' Z'):AW (Av c Y Z) (Av c Y' Z') H H':=
 bG (λb o h t=>f.keep b o h (λm=>by
  obtain⟨o',a,d,g⟩:=W.live st H b e m;rw[h] at a;cases a;rcases t with⟨u,z⟩ | ⟨e,u,z⟩
  ·exact d u z
  ·exact g e u z) λw=>by
  obtain⟨_,_,o',a,d,g⟩:=R.owOk w;rw[h] at a;cases a;rcases t with⟨u,z⟩ | ⟨e,u,z⟩
  ·exact d u z
  ·exact g e u z) λb o a h=>{{a.1,λw=>a.2.1 (f.own b o h a.1 w),a.2.2},f.keep b o h a.1 a.2.1}
def cF{g:Gr}{f:Fn S}{k:D->Ay S}{D:Dm}(h:tS c (λZ st=>(f Z st).bind λd st1=>k d Z st1) D Y H) :
 tD c g f Y H λv H1=>∃Z d a st1,Ax c H Y Z/\W.ok a H/\Ax c H1 Y Z/\W.ok st1 H1/\Ah W H H1/\BH c g Y Z H H1 d v/\Ab (k d Z st1) (CT c D Y Z H) (Dd c):=by
 obtain⟨Z,st,R,b,w⟩:=h;refine{Z,st,R,b,ak (ae.mp w) (λd st1 q v H1 e a z=>?_) λx st1 q H1 e a=>q H1 (e.f0 R) a};exact{Z,d,st,st1,R,b,R.ext b e,a,e,z,q}
def pR{f:AV S}{k:Bool->Ay S}{D:Dm}(h:tS c (λZ st=>(f Z st).bind λd st1=>k d Z st1) D Y H) :
 tDT c f Y H λb H1=>∃Z st1,Ax c H1 Y Z/\W.ok st1 H1/\Ab (k b Z st1) (CT c D Y Z H1) (Dd c):=by
 obtain⟨Z,st,R,f,w⟩:=h;refine{Z,st,R,f,ak (ae.mp w) (λd st1 q H1 e a=>?_) λx st1 q H1 e a=>q H1 (e.f0 R) a};exact{Z,st1,R.ext f e,a,ak q (λd b q=>q.from e.frm) λx b q=>q}
end
section
variable{X:Cx}{S:Type}{W:Wd S}{c:Dx W}
def Jm(S:Type):Ay S:=λZ st=>.ok (.nx Z) st
def FQ(S:Type)(F G:Ay S):Ay S:=λZ st=>(F Z st).bind λfl st1=>match fl with
 | .nx Z1=>G Z1 st1
 | .rt d=>.ok (.rt d) st1
 | .bk r=>.ok (.bk r) st1
 | .ct r=>.ok (.ct r) st1
def jC:CM X c [] (Jm S):=fQ.imp λD Y H ⟨Z,b,R,a,w⟩=>w Y H Bb.refl a R
def bI{s:Stmt}{r:List Stmt}{F G:Ay S}(b:DS X c s F)(a:CM X c r G):CM X c (s::r) (FQ S F G):=
 (bA b a).imp λD Y H hI9=>by
  obtain⟨Z,b,R,a,w⟩:=hI9;refine{Z,b,R,a,ak (ae.mp w) (λd a q=>?_) λx a q=>q};cases d with
  | nx e=>exact λh H1 f b g=>{e,a,g,b,ak q (λd e q=>q.from f) λx e q=>q}
  | rt d=>exact q
  | bk r=>exact q
  | ct r=>exact q
def eJ{s:Stmt}{F:Ay S}(a:DS X c s F):CM X c [s] F:=dG a
def Jn(S:Type)(f:Fn S):Ay S:=λZ st=>(f Z st).bind λ_ st1=>.ok (.nx Z) st1
instance D.flat:D->Bool
 | .lst l=>D.immL l
 | .dct _ l=>D.immL l
 | _=>false
def HN(S:Type)(f:Fn S):Ay S:=λZ st=>(f Z st).bind λd st1=>if d.imm=true\/d.flat=true then .ok (.rt d) st1 else .bad
def jD{K:FG}{A b:Addr->Prop}{H:Hp}{d:D}{a:Addr}(h:Is K A H d (.ref a))(m:d.flat=true)(n:b a):Is K b H d (.ref a):=by
 cases d with
 | lst l=>
   obtain⟨b,d,e,_,f,i⟩:=Is.lst_iff.mp h;cases e;exact Is.lst n f (aa.ofImm m i)
 | dct f l=>
   obtain⟨b,d,e,_,i,q⟩:=Is.dct_iff.mp h;cases e;exact Is.dct_iff.mpr {a,d,rfl,n,aa.ofImm m i,q}
 | _=>simp[D.flat] at m
def jE{K:FG}{A:Addr->Prop}{H:Hp}{d:D}{v:V}(h:Is K A H d v)(m:d.flat=true):∃a,v=.ref a/\d.mut=true/\A a/\∃o,H a=some o:=by
 cases d with
 | lst l=>
   obtain⟨b,a,e,n,d,i⟩:=Is.lst_iff.mp h;exact{b,e,rfl,n,_,d}
 | dct f l=>
   obtain⟨b,a,e,n,i,q⟩:=Is.dct_iff.mp h;rcases q with⟨_,_,_,q⟩ | ⟨_,_,_,q⟩<;>exact{b,e,rfl,n,_,q}
 | _=>simp[D.flat] at m
theorem Ax.none0{H:Hp}{Y:St}{Z:Ag}{d:S}(R:Ax c H Y Z)(b:W.ok d H){a:Addr}(h:H a=none):c.H0 a=none:=by
 cases q:c.H0 a with
 | none=>rfl
 | some o=>rw[R.frame a o q (bH b h)] at h;cases h
def jF{e:Expr}{f:Fn S}{pos:Pos}(h:DE X c .F e f):DS X c (.Return (some e) pos) (HN S f):=
 (dH h).imp λD Y H q=>bi (cF (g:=.F) q) λv H1 hI10=>by
  obtain⟨Z,d,h,b,R,f,i,a,e,z,w⟩:=hI10;by_cases m:d.imm=true\/d.flat=true
  ·rw[if_pos m] at w
   refine w v H1 (e.f0 R) a ?_;rcases m with m | m
   ·exact Is.ofImm m z.1
   ·obtain⟨a,rfl,b,d,_⟩:=jE z.1 m
    exact jD z.1 m {d.1,R.none0 f (z.2 a rfl b)}
  ·rw[if_neg m] at w;exact w.elim
instance own?(Z:Ag)(i:Nat):Option D:=match Z[i]? with
 | some (.own d)=>if d.flat=true then some d else none
 | some (.bor d)=>if d.imm=true then some d else none
 | _=>none
def HP(S:Type)(i:Nat):Ay S:=λZ st=>(Az (own? Z i) st).bind λd st1=>.ok (.rt d) st1
open H in
def pS{i:Nat}{x:Str}{p pos:Pos}(h:PE X (.Name x p) (BA i)):DS X c (.Return (some (.Name x p)) pos) (HP S i):=
 (dH h).imp λD Y H hI11=>by
  obtain⟨Z,a,R,l,w⟩:=hI11;obtain⟨d,e,q⟩:=au.mp (ae.mp w);have j:∀{o:Option (Option V)} {v:V},o.join=some v->o=some (some v):=λ{o v} e=>by cases o with
   | none=>cases e
   | some a=>rw[show a=some v from e]
  unfold own? at e;cases b:Z[i]? with
  | none=>rw[b] at e;cases e
  | some s=>
    rw[b] at e;have z:=R.slot i s b;cases s with
    | no=>cases e
    | hnd=>cases e
    | bor d'=>
      have e:(if d'.imm=true then some d' else none)=some d:=e;split at e
      ·rename_i m
       cases e;obtain⟨v,g,f⟩:=z;exact{v,j g,q v H (λb o h n=>R.frame b o h n) l (Is.ofImm m f)}
      ·cases e
    | own d'=>
      have e:(if d'.flat=true then some d' else none)=some d:=e;split at e
      ·rename_i m
       cases e;obtain⟨a,g,n,f,t⟩:=z;have tt:Is c.K 'w' H d (.ref a):=(t.mono (A':=λb=>¬W.mv b) {λ_ _ z _=>z,λb o a z=>⟨a.1,z⟩} λo z=>z).isTop n.1;exact{_,j g,q _ H (λb o h n=>R.frame b o h n) l (jD tt m ⟨n.1,f⟩)}
      ·cases e
def Ko(S:Type):Ay S:=λ_ st=>.ok (.rt .non) st
instance sIf(S:Type)(t:AV S)(F G:Ay S):Ay S:=λZ st=>(t Z st).bind λb st1=>if b=true then F Z st1 else G Z st1
open H in
def jG{e:Expr}{a b:List Stmt}{pos:Pos}{t:AV S}{F G:Ay S}(h:DT X c e t)(f:CM X c a F)(d:CM X c b G):DS X c (.If e a b pos) (sIf S t F G):=
 (fR h f d).imp λD Y H q=>by
  obtain⟨Z,f,R,g,w⟩:=pR (k:=λb=>if b=true then F else G) (by
   obtain⟨Z,f,R,g,w⟩:=q;refine{Z,f,R,g,?_};have e:sIf S t F G Z f=(t Z f).bind λd a=>(if d=true then F else G) Z a:=by
    unfold sIf;congr;funext d a;cases d<;>rfl
   rw[e] at w;exact w)
  refine{Z,f,R,g,ak w (λb a q H1 e f=>?_) λx a q=>q};obtain⟨h,d,i,a,g⟩:=q H1 e f;cases b with
  | true=>exact⟨h,d,i,a,g⟩
  | false=>exact⟨h,d,i,a,g⟩
def Kp(S:Type):Ay S:=λZ st=>.ok (.bk Z) st
def Kq(S:Type):Ay S:=λZ st=>.ok (.ct Z) st
end
section
variable{X:Cx}{S:Type}{W:Wd S}{c:Dx W}{H H1 H':Hp}{Y Y':St}{Z Z':Ag}{st:S}{i:Nat}{d:D}{v:V}
def aT{α:Type}{l:List α}{i j:Nat}{a b:α}(h:(l.set i a)[j]?=some b):(j=i/\b=a)\/(j≠i/\l[j]?=some b):=by
 by_cases e:j=i
 ·subst e
  rw[List.getElem?_set_self'] at h;cases q:l[j]? with
  | none=>rw[q] at h;cases h
  | some x=>rw[q] at h;exact .inl {rfl,(Option.some.inj h).symm}
 ·rw[Dy (Ne.symm e)] at h
  exact .inr ⟨e,h⟩
def bC(e:o.join=some v):o=some (some v):=by
 cases o with
 | none=>cases e
 | some a=>rw[show a=some v from e]
def jH{b:Addr}(h:Ow (Y.set i (some v)) (Z.set i (.bor d)) b):Ow Y Z b:=by
 obtain⟨j,e,f,a⟩:=h;rcases aT f with⟨_,z⟩ | ⟨n,z⟩
 ·cases z
 ·rcases aT a with⟨m,_⟩ | ⟨_,y⟩
  ·exact absurd m n
  ·exact⟨j,e,z,y⟩
def Ax.setB(R:Ax c H Y Z)(m:i<Z.length)(h:Is c.K (Av c Y Z) H d v):Ax c H (Y.set i (some v)) (Z.set i (.bor d)) where
 len:=by rw[CI,CI];exact R.len
 frame:=R.frame
 avl:=R.avl
 slot:=λj s f=>by
  have k:AW (Av c Y Z) (Av c (Y.set i (some v)) (Z.set i (.bor d))) H H:={λ_ _ z _=>z,λb o a z=>{{a.1,λw=>a.2.1 (jH w),a.2.2},z}};rcases aT f with⟨e,z⟩ | ⟨n,z⟩
  ·subst z
   subst e;refine{v,?_,Is.mono k h};rw[GS (by rw[R.len];exact m)];rfl
  ·rw[Dy (Ne.symm n)]
   have q:=R.slot j s z;cases s with
   | no=>trivial
   | bor e=>obtain⟨v',b,f⟩:=q;exact{v',b,f.mono k}
   | own e=>obtain⟨a,b,g,f,t⟩:=q;exact{a,b,g,f,t.mono k λo z=>z}
   | hnd=>exact q
 uniq:=λj g a e e' h l f b=>by
  rcases aT h with⟨_,z⟩ | ⟨n,z⟩
  ·cases z
  ·rcases aT l with⟨_,z'⟩ | ⟨h,z'⟩
   ·cases z'
   ·rw[Dy (Ne.symm n)] at f
    rw[Dy (Ne.symm h)] at b;exact R.uniq j g a e e' z z' f b
def bf:Bb c H Y Z H (Y.set i (some v)) (Z.set i (.bor d)):={λ_ _ h _ _=>h,λ_ _ _ _ w=>jH w}
def jI{a b:Addr}(h:Ow (Y.set i (some (.ref a))) (Z.set i (.own d)) b):Ow Y Z b\/b=a:=by
 obtain⟨j,e,f,b⟩:=h;rcases aT f with⟨m,_⟩ | ⟨n,z⟩
 ·rcases aT b with⟨_,y⟩ | ⟨n,_⟩
  ·cases y;exact .inr rfl
  ·exact absurd m n
 ·rcases aT b with⟨m,_⟩ | ⟨_,y⟩
  ·exact absurd m n
  ·exact .inl ⟨j,e,z,y⟩
def Ax.setO{a:Addr}(R:Ax c H Y Z)(B:W.ok st H)(x:Ah W H H1){b:S}(e:W.ok b H1)(G:i<Z.length)(h:Is c.K (Av c Y Z) H1 d (.ref a))(m:d.flat=true)(p:H a=none) :
 Ax c H1 (Y.set i (some (.ref a))) (Z.set i (.own d))/\Bb c H Y Z H1 (Y.set i (some (.ref a))) (Z.set i (.own d)):=by
 have l:¬W.mv a:=bH B p;have k:AW (Av c Y Z) (Av c (Y.set i (some (.ref a))) (Z.set i (.own d))) H H1:=bG (λb o e t=>x b o e λf=>by
  obtain⟨o',g,y,n⟩:=W.live st H b B f;rw[e] at g;cases g;rcases t with⟨u,z⟩ | ⟨j,u,z⟩
  ·exact y u z
  ·exact n j u z) λb o f e=>{{f.1,(λw=>by
   rcases jI w with w | w
   ·exact f.2.1 w
   ·subst w;rw[p] at e;cases e),f.2.2},x b o e f.1}
 refine{{by rw[CI,CI];exact R.len,λb o e n=>x b o (R.frame b o e n) n,λj s f=>?_,(λb h=>let ⟨n,z,o,g,q⟩:=R.avl b h;{n,z,o,x b o g n,q}),λj E b e e' C A u r=>?_},{λb o e n w=>x b o e n,λb o e n w=>?_}}
 ·rcases aT f with⟨e,z⟩ | ⟨n,z⟩
  ·subst z
   subst e;refine{a,by rw[GS (by rw[R.len];exact G)];rfl,{l,λw=>by obtain⟨_,_,o,g,_⟩:=R.avl a w;rw[p] at g;cases g},R.none0 B p,?_};cases d with
   | lst l=>
     obtain⟨b,B,e,_,F,f⟩:=Is.lst_iff.mp h;cases e;exact{B,F,aa.ofImm m f}
   | dct F l=>
     obtain⟨b,B,e,_,f,q⟩:=Is.dct_iff.mp h;cases e;exact{B,aa.ofImm m f,q}
   | _=>simp[D.flat] at m
  ·rw[Dy (Ne.symm n)]
   have q:=R.slot j s z;cases s with
   | no=>trivial
   | bor e=>obtain⟨v',h,f⟩:=q;exact{v',h,f.mono k}
   | own e=>obtain⟨b,h,y,f,t⟩:=q;exact{b,h,y,f,t.mono k λo z=>x b o z y.1}
   | hnd=>exact q
 ·have fresh:∀(j:Nat) (e:D),Z[j]?=some (.own e)->Y[j]?=some (some (.ref a))->False:=λj e C A=>by
   obtain⟨_,_,o,g,_⟩:=R.owOk ⟨j,e,C,A⟩;rw[p] at g;cases g
  rcases aT C with⟨h,z⟩ | ⟨n,z⟩
  ·rcases aT A with⟨f,z'⟩ | ⟨a,z'⟩
   ·rw[h,f]
   ·rw[Dy (Ne.symm a)] at r
    rcases aT u with⟨_,y⟩ | ⟨g,_⟩
    ·cases y;exact(fresh E e' z' r).elim
    ·exact absurd h g
  ·rcases aT A with⟨f,z'⟩ | ⟨a,z'⟩
   ·rw[Dy (Ne.symm n)] at u
    rcases aT r with⟨_,y⟩ | ⟨g,_⟩
    ·cases y;exact(fresh j e z u).elim
    ·exact absurd f g
   ·rw[Dy (Ne.symm n)] at u
    rw[Dy (Ne.symm a)] at r;exact R.uniq j E b e e' z z' u r
 ·rcases jI w with w | w
  ·exact w
  ·subst w;rw[p] at e;cases e
instance put(Z:Ag)(i:Nat)(d:D):Option Ag:=if i<Z.length then some (Z.set i (.bor d)) else none
instance putN(Z:Ag)(i:Nat)(d:D):Option Ag:=if i<Z.length then some (Z.set i (if d.flat=true then .own d else .bor d)) else none
def Gh(S:Type)(i:Nat)(f:Fn S):Ay S:=λZ st=>(f Z st).bind λd st1=>(Az (putN Z i d) st1).bind λZ' st2=>.ok (.nx Z') st2
def Gi(S:Type)(i:Nat)(f:Fn S):Ay S:=λZ st=>(f Z st).bind λd st1=>(Az (put Z i d) st1).bind λZ' st2=>.ok (.nx Z') st2
open H in
def jJ{f:Fn S}{D:Dm}(h:tS c (Gh S i f) D Y H):Ft (tD c .F f) (FO i) D Y H:=
 bi (cF (g:=.F) h) λv H1 hI12=>by
  obtain⟨Z,d,f,a,R,l,n,b,e,z,w⟩:=hI12;obtain⟨Z',f,w⟩:=au.mp (ae.mp w);unfold putN at f;split at f
  ·rename_i h
   by_cases m:d.flat=true
   ·rw[if_pos m] at f
    cases f;obtain⟨a,rfl,o,j,_⟩:=jE z.1 m;obtain⟨R2,j⟩:=R.setO (i:=i) l e b h z.1 m (z.2 a rfl o);exact w (Y.set i (some (.ref a))) H1 j b R2
   ·rw[if_neg m] at f
    cases f;exact w _ H1 (e.frm.trans bf) b (n.setB h z.1)
  ·cases f
open H in
def pT{f:Fn S}{D:Dm}(h:tS c (Gi S i f) D Y H):Ft (tD c .B f) (FO i) D Y H:=
 bi (cF (g:=.B) h) λv H1 hI13=>by
  obtain⟨Z,d,h,a,R,j,f,b,e,z,w⟩:=hI13;obtain⟨Z',a,w⟩:=au.mp (ae.mp w);unfold put at a;split at a
  ·rename_i h
   cases a;exact w _ H1 (e.frm.trans bf) b (f.setB h z)
  ·cases a
def eK{x:Str}{e:Expr}{f:Fn S}{p pos:Pos}(l:X.N.Nodup)(h:X.N[i]?=some x)(j:Loc X.env.scope x)(b:DE X c .F e f)(g:autoParam (swapsWith e (some (.Name x p)) pos.line X.env=pure false) uR)(a:autoParam (X.fn x=true\/X.env.scope.names.lookup x=some .local) z0a._auto_1) :
 DS X c (.Assign [.Name x p] e pos) (Gh S i f):=(bB l h j b g a).imp λD Y H q=>jJ q
def jK{x:Str}(l:X.N.Nodup)(g:X.N[i]?=some x)(h:Loc X.env.scope x)(j:DE X c .B e f)(b:autoParam (swapsWith e (some (.Name x p)) pos.line X.env=pure false) uR)(a:autoParam (X.fn x=true\/X.env.scope.names.lookup x=some .local) z0a._auto_1) :
 DS X c (.Assign [.Name x p] e pos) (Gi S i f):=(bB l g h j b a).imp λD Y H q=>pT q
abbrev BD:=D->Ag->Option Ag
abbrev EK:=List D->Ag->Option Ag
instance tG{S:Type}{W:Wd S}(c:Dx W)(G:BD):TG:=λv Y H Q=>∃Z d Z' st,Ax c H Y Z/\W.ok st H/\Is c.K (Av c Y Z) H d v/\G d Z=some Z'/\∀Y',Ax c H Y' Z'->Bb c H Y Z H Y' Z'->Q Y' H
instance tGs{S:Type}{W:Wd S}(c:Dx W)(G:EK):TGs:=λvs Y H Q=>∃Z l Z' st,Ax c H Y Z/\W.ok st H/\aa c.K (Av c Y Z) H l vs/\G l Z=some Z'/\∀Y',Ax c H Y' Z'->Bb c H Y Z H Y' Z'->Q Y' H
instance DG(X:Cx){S:Type}{W:Wd S}(c:Dx W)(e:Expr)(G:BD):Prop:=PG X e (tG c G)
instance DGs(X:Cx){S:Type}{W:Wd S}(c:Dx W)(e:List Expr)(G:EK):Prop:=PGs X e (tGs c G)
def PG.imp(h:PG X e t)(i:∀v Y H Q,t' v Y H Q->t v Y H Q):PG X e t':=λa s Y H v u Q I r q=>h a s Y H v u Q I r (i v Y H Q q)
def PGs.imp(h:PGs X e t)(i:∀v Y H Q,t' v Y H Q->t v Y H Q):PGs X e t':=λa s Y H v u Q I r q=>h a s Y H v u Q I r (i v Y H Q q)
instance gN(i:Nat):BD:=λd Z=>put Z i d
open H in
def gm{x:Str}{pos:Pos}(f:X.N.Nodup)(b:X.N[i]?=some x)(e:Loc X.env.scope x)(a:autoParam (X.fn x=true\/X.env.scope.names.lookup x=some .local) z0a._auto_1):DG X c (.Name x pos) (gN i):=
 (eA f b e a).imp λv Y H Q hI14=>by
  obtain⟨Z,d,Z',st,R,a,z,e,q⟩:=hI14;unfold gN put at e;split at e
  ·rename_i h
   cases e;exact q _ (R.setB h z) bf
  ·cases e
def BR:EK:=λl Z=>match l with
 | []=>some Z
 | _=>none
def Bp(G:BD)(Gs:EK):EK:=λl Z=>match l with
 | d::r=>(G d Z).bind λZ1=>Gs r Z1
 | []=>none
def pU:DGs X c [] BR:=fS.imp λv Y H Q hI15=>by
 obtain⟨Z,l,Z',st,R,a,z,e,q⟩:=hI15;cases l with
 | nil=>cases e;exact{aa.nil.mp z,q Y R Bb.refl}
 | cons _ _=>cases e
def jL{e:Expr}{es:List Expr}{G:BD}{f:EK}(g:DG X c e G)(a:DGs X c es f)(b:autoParam ((assignEach (e::es) X.env).map (·.2)=assign e X.env::(assignEach es X.env).map (·.2)) uR):DGs X c (e::es) (Bp G f):=
 (dI g a b).imp λv Y H Q hI16=>by
  obtain⟨Z,l,Z',st,R,b,z,e,q⟩:=hI16;cases l with
  | nil=>cases e
  | cons d r=>
    obtain⟨m,h,l,j,g⟩:=aa.cons.mp z;have e:(G d Z).bind (λa=>f r a)=some Z':=e;cases q1:G d Z with
    | none=>rw[q1] at e;cases e
    | some a=>
      rw[q1] at e;refine{m,h,l,Z,d,a,st,R,b,j,q1,λl h f=>?_};exact{a,r,Z',st,h,b,g.mono (f.keepT R b),e,λa R2 g=>q a R2 (f.trans g)}
instance gT(n:Nat)(Gs:EK):BD:=λd Z=>match d with
 | .tup l=>if l.length=n then Gs l Z else none
 | _=>none
open H in
def wn{es:List Expr}{k:Nat}{pos:Pos}{b:EK}{n:Nat}(f:X.calm=true)(j:c.K=X.K)(h:DGs X c es b)(e:autoParam ((assignEach es X.env).length=n) uR)(a:autoParam ((assignEach es X.env).findIdx? (·.1)=none) uR):DG X c (.Tuple es k pos) (gT n b):=
 (fT f h e a).imp λv Y H Q hI17=>by
  obtain⟨Z,d,Z',st,R,h,z,e,q⟩:=hI17;cases d with
  | tup l=>
    obtain⟨a,g,o,m,f⟩:=Is.tup_sq z;have e:(if l.length=n then b l Z else none)=some Z':=e;split at e
    ·rename_i b
     exact{a,g,o,by rw[<-j];exact m,by rw[<-f.length];exact b,Z,l,Z',st,R,h,f,e,q}
    ·cases e
  | _=>cases e
def HQ(S:Type)(G:BD)(f:Fn S):Ay S:=λZ st=>(f Z st).bind λd st1=>(Az (G d Z) st1).bind λZ' st2=>.ok (.nx Z') st2
def pV{a e:Expr}{f:Fn S}{G:BD}{pos:Pos}(m:DE X c .B e f)(b:DG X c a G)(l:autoParam (swapsWithSole [a] e pos.line X.env=pure false) uR)(j:autoParam (swappedStores [a] e X.env=pure none) uR)(h:autoParam ((assignEach [a] X.env).map (·.2)=[assign a X.env]) uR):DS X c (.Assign [a] e pos) (HQ S G f):=
 (fU m b l j h).imp λD Y H q=>bi (cF (g:=.B) q) λv H1 hI18=>by
  obtain⟨Z,d,h,b,R,j,f,a,e,z,w⟩:=hI18;obtain⟨Z',h,w⟩:=au.mp (ae.mp w);exact{Z,d,Z',b,f,a,z,h,λY' j b=>w Y' H1 (e.frm.trans b) a j}
end
def G8{S:Type}{W:Wd S}(c:Dx W)(Y:St)(Z:Ag)(H:Hp)(J:It)(l:List D):Prop:=∀(c':Dx W) (hK:c'.K=c.K) Y2 Z2 H2 (st2:S),AW (Av c Y Z) (Av c' Y2 Z2) H H2->Ax c' H2 Y2 Z2->W.ok st2 H2->∀i:Nat,
 (∀d,l[i]?=some d->J.go i H2/\∀x H3,J.yld i H2 x H3->Ch H2 H3/\Is c.K (Av c' Y2 Z2) H3 d x)/\(l.length<=i->J.stop i H2)
abbrev Es(S:Type):=A5 S
instance tI{S:Type}{W:Wd S}(c:Dx W)(f:Es S):TI:=λY H R=>∃Z st,Ax c H Y Z/\W.ok st H/\
 Ab (f Z st) (λl st'=>∀J H',Ah W H H'->W.ok st' H'->G8 c Y Z H' J l->R J H') λx st'=>∀H',Ah W H H'->W.ok st' H'->c.Ex x st' H'
instance DI(X:Cx){S:Type}{W:Wd S}(c:Dx W)(tg iter:Expr)(f:Es S):Prop:=PI X tg iter (tI c f)
def PI.imp(h:PI X tg e t)(i:∀Y H R,t' Y H R->t Y H R):PI X tg e t':=λa s Y H R I q=>h a s Y H R I (i Y H R q)
section
variable{X:Cx}{S:Type}{W:Wd S}{c:Dx W}{tg:Expr}
def Ew(S:Type)(sel:D->Option (List D))(f:Fn S):Es S:=λZ st=>(f Z st).bind λd st1=>Az (sel d) st1
instance D.tup?:D->Option (List D)
 | .tup l=>some l
 | _=>none
instance D.lst?:D->Option (List D)
 | .lst l=>some l
 | _=>none
def jM(g:c.K=X.K)(h:DE X c .B e f):DI X c tg e (Ew S D.tup? f):=
 (n4 h).imp λY H R hI19=>by
  obtain⟨Z,d,b,a,w⟩:=hI19;refine{Z,d,b,a,ak (ae.mp w) (λd a q v H1 e f z=>?_) λx a q=>q};obtain⟨l,h,q⟩:=au.mp q;cases d with
  | tup m=>
    cases h;obtain⟨a,b,j,s0,i⟩:=Is.tup_iff.mp z;have s:AN c.K H1 a b:=.of s0;refine{a,j,{b,by rw[<-g];exact s},q _ H1 e f ?_};intro n j m o H2 f k R2 p j;have e:AN c.K H2 a b:=.of (k.tup a b s0);have f:aa c.K (Av n m o) H2 l b:=i.mono k;refine{λd a=>?_,λj=>{b,by rw[<-g];exact e,by rw[<-f.length];exact j}};obtain⟨i,d,l⟩:=f.get a;exact{{b,i,by rw[<-g];exact e,d},λx H3 hI20=>by
     obtain⟨f,y⟩:=hI20;subst f;have a:=y b (by rw[<-g];exact e);rw[d] at a;cases a;exact{Ch.refl _,l}}
  | _=>cases h
def pW(a:c.K=X.K)(h:DE X c .B e f):DI X c tg e (Ew S D.lst? f):=
 (n3 h).imp λY H R hI21=>by
  obtain⟨Z,d,b,a,w⟩:=hI21;refine{Z,d,b,a,ak (ae.mp w) (λd a q v H1 e f z=>?_) λx a q=>q};obtain⟨l,g,q⟩:=au.mp q;cases d with
  | lst m=>
    cases g;obtain⟨a,b,h,n,s,i⟩:=Is.lst_iff.mp z;refine{a,h,{b,.of s},q _ H1 e f ?_};intro m j h o H2 f k R2 p j;have e:H2 a=some (.lst b):=(k.nod a _ n s).2;have f:aa c.K (Av m h o) H2 l b:=i.mono k;refine{λd a=>?_,λi=>{b,.of e,by rw[<-f.length];exact i}};obtain⟨h,d,j⟩:=f.get a;exact{{b,h,.of e,d},λx H3 hI22=>by
     obtain⟨f,y⟩:=hI22;subst f;have a:=y b (.of e);rw[d] at a;cases a;exact{Ch.refl _,j}}
  | _=>cases g
def Cq(lo:Int)(n:Nat):List D:=(List.range n).map λ(k:Nat)=>D.int (lo+(k:Int))
def HR:List D->Option (List D)
 | [.int j]=>if -(2 ^ 62)<=j/\j<2 ^ 62 then some (Cq 0 j.toNat) else none
 | _=>none
def Fu(S:Type)(o:List D->Option (List D))(f:A5 S):Es S:=λZ st=>(f Z st).bind λl st1=>Az (o l) st1
def pX(f:Int)(n:Nat):G8 c Y Z H (Itr f n) (Cq f n):=by
 intro b d e g H2 a k R2 b j;refine{λd a=>?_,λb=>?_}
 ·unfold Cq at a
  rw[AX] at a;cases q:(List.range n)[j]? with
  | none=>rw[q] at a;cases a
  | some m=>
    rw[q] at a;cases a;obtain⟨e,d⟩:=Bd.mp q;rw[List.getElem_range] at d;subst d;rw[Fj] at e;exact{e,λx H3 ⟨a,d⟩=>by subst a d;exact{Ch.refl _,Is.int_iff.mpr rfl}}
 ·unfold Cq at b
  rw[Ai,Fj] at b;exact b
open H in
def wo{a:Expr}{f:A5 S}{p pos:Pos}(d:Gl X "range")(e:X.mg "range" = none)(g:DA X c [a] f)(b:autoParam (starEach [a] X.env=[(false,eval a X.env)]) uR):DI X c tg (.Call (.Name "range" p) [a] [] pos) (Fu S HR f):=
 (n6 d e g b).imp λY H R hI23=>by
  obtain⟨Z,d,b,a,w⟩:=hI23;refine{Z,d,b,a,ak (ae.mp w) (λl d q a H1 e b z=>?_) λx d q=>q};obtain⟨m,a,q⟩:=au.mp q;unfold HR at a;split at a
  ·rename_i j
   split at a
   ·rename_i h
    cases a;obtain⟨v,r,d,g,f⟩:=aa.cons.mp z;rw[aa.nil.mp f,Is.int_iff.mp g] at d;exact{j,d,h.1,h.2,q _ H1 e b (pX 0 _)}
   ·cases a
  ·cases a
instance frz1(i:Nat)(Z:Ag):Ag:=match Z[i]? with
 | some (.own d)=>Z.set i (.bor d)
 | _=>Z
instance frz:List Nat->Ag->Ag
 | [],Z=>Z
 | i::r,Z=>frz r (frz1 i Z)
open H in
def Ax.frz1{H:Hp}{Y:St}{Z:Ag}{v:S}(i:Nat)(R:Ax c H Y Z)(a:W.ok v H):Ax c H Y (frz1 i Z)/\Bb c H Y Z H Y (L2.frz1 i Z):=by
 unfold L2.frz1;split
 ·rename_i d h
  obtain⟨a,l,n,f,t⟩:=R.slot i _ h;have o:=bC l;have b:i<Z.length:=(Bd.mp h).1;have g:∀b,Ow Y (Z.set i (.bor d)) b->Ow Y Z b/\b≠a:=λb hI24=>by
   obtain⟨j,e,p,m⟩:=hI24;rcases aT p with⟨_,z⟩ | ⟨r,z⟩
   ·cases z
   ·refine{⟨j,e,z,m⟩,λq=>?_}
    subst q;exact r (R.uniq j i b e d z h m o)
  have k:AW (Av c Y Z) (Av c Y (Z.set i (.bor d))) H H:={λ_ _ z _=>z,λb o a z=>{{a.1,λw=>a.2.1 (g b w).1,a.2.2},z}};refine{{by rw[CI];exact R.len,R.frame,λj s x=>?_,R.avl,λj d b e e' p m u i=>?_},{λb o h _ _=>h,λb o _ _ w=>(g b w).1}}
  ·rcases aT x with⟨h,z⟩ | ⟨r,z⟩
   ·subst z h
    exact{_,l,(t.mono k λo z=>z).isTop {n.1,λw=>(g a w).2 rfl,n.2}}
   ·have q:=R.slot j s z
    cases s with
    | no=>trivial
    | bor e=>obtain⟨v',l,a⟩:=q;exact{v',l,a.mono k}
    | own e=>obtain⟨b,l,a,f,t⟩:=q;exact{b,l,a,f,t.mono k λo z=>z}
    | hnd=>exact q
  ·rcases aT p with⟨_,z⟩ | ⟨_,z⟩
   ·cases z
   ·rcases aT m with⟨_,z'⟩ | ⟨_,z'⟩
    ·cases z'
    ·exact R.uniq j d b e e' z z' u i
 ·exact⟨R,Bb.refl⟩
theorem Ax.frz{H:Hp}{Y:St}{f:S}(a:W.ok f H):∀(l:List Nat) {Z:Ag},Ax c H Y Z->Ax c H Y (L2.frz l Z)/\Bb c H Y Z H Y (L2.frz l Z)
 | [],Z,R=>⟨R,Bb.refl⟩
 | i::r,Z,R=>by
   obtain⟨d,b⟩:=R.frz1 i a;obtain⟨R2,e⟩:=Ax.frz a r d;exact{R2,b.trans e}
def Dp(S:Type)(G:BD)(B:Ay S):List D->Ay S
 | [],Z,st=>.ok (.nx Z) st
 | d::r,Z,st=>(Az (G d Z) st).bind λZ1 st1=>(B Z1 st1).bind λfl st2=>match fl with
   | .nx Z2=>Dp S G B r Z2 st2
   | .ct Z2=>Dp S G B r Z2 st2
   | .bk Z2=>.ok (.nx Z2) st2
   | .rt d=>.ok (.rt d) st2
def HS(S:Type)(fz:List Nat)(f:Es S)(G:BD)(B:Ay S):Ay S:=λZ st=>(f (frz fz Z) st).bind λl st1=>Dp S G B l (frz fz Z) st1
def wp{a:Expr}{b:List Stmt}{f:Es S}{G:BD}{B:Ay S}{pos:Pos}(p:List Nat)(h:PassesOwn 'e' X.A X.env X.xe)(d:X.calm=true)(F:DI X c tg a f)(e:DG X c tg G)(r:CM X c b B)(g:autoParam (∀x,foldedSetIterable a X.env x=pure x) z0c._auto_1):DS X c (.For tg a b [] pos) (HS S p f G B):=
 (n8 h d F e r g).imp λD Y H hI25=>by
  obtain⟨Z,b,R,a,w⟩:=hI25;obtain⟨g,h⟩:=R.frz a p;refine{frz p Z,b,g,a,ak (ae.mp w) (λl d q J H1 e b n=>?_) λx d q H1 e b=>q H1 (e.f0 R) b};have f:=g.ext a e;refine{λi m j H2=>∃g a,i<=l.length/\m=l.length-i/\Bb c H1 Y (frz p Z) H2 j g/\Ax c H2 j g/\W.ok a H2/\Ab (Dp S G B (l.drop i) g a) (CT c D j g H2) (Dd c),{l.length,frz p Z,d,AR _,rfl,Bb.refl,f,b,?_},?_}
  ·rw[Fp]
   exact ak q (λv a q=>(q.from h).from e.frm) λx a q=>q
  ·rintro i m j H2 ⟨g,a,d,rfl,z,R2,h,s⟩
   obtain⟨e,E⟩:=n c rfl j g H2 a (z.keepT f b) R2 h i;by_cases n:i<l.length
   ·have d:l[i]?=some l[i]:=Ba n
    obtain⟨b,I⟩:=e _ d;rw[GO n] at s;refine .inr {b,λm H3=>∃e d,Bb c H1 Y (frz p Z) H3 m e/\Ax c H3 m e/\W.ok d H3/\Ab (Dp S G B (l.drop (i+1)) e d) (CT c D m e H3) (Dd c),λm H3 ⟨e,d,o,u,f,b⟩=>{l.length-(i+1),'o',e,d,n,rfl,o,u,f,b},λx H3 y=>?_};obtain⟨n,C⟩:=I x H3 y;have A:Ah W H2 H3:=n.ext;have f:W.ok a H3:=W.stay a H2 H3 h (λb o _ r=>n b o r) λb o r _=>n b o r
    have u:=R2.ext h A;obtain⟨o,n,y⟩:=au.mp (ae.mp s);refine{g,_,o,a,u,f,C,n,λr I b=>?_};have n:Bb c H2 j g H3 r o:=A.frm.trans b;refine{o,a,I,f,ak (ae.mp y) (λv a q5=>?_) λx a q=>q};have Ca:∀b,Ab (Dp S G B (l.drop (i+1)) b a) (CT c D j g H2) (Dd c)->Nx c (λm H3=>∃e d,Bb c H1 Y (frz p Z) H3 m e/\Ax c H3 m e/\W.ok d H3/\Ab (Dp S G B (l.drop (i+1)) e d) (CT c D m e H3) (Dd c)) r o H3 b a:=
     λb q5 d H5 f e g=>{b,a,z.trans (n.trans f),g,e,ak q5 (λv a q=>q.from (n.trans f)) λx a q=>q}
    cases v with
    | nx b=>exact Ca b q5
    | ct b=>exact Ca b q5
    | bk b=>exact λd H5 f e g=>q5 d H5 (n.trans f) e g
    | rt d=>exact q5
   ·have a:i=l.length:=by omega
    subst a;rw[List.drop_length] at s;exact .inl {E (Al _),s j H2 Bb.refl h R2}
end
theorem cg:∀{l m:List D},D.immL l=true->D.immL m=true->D.immL (l++m)=true
 | [],_,_,h=>h
 | d::l,m,h,k=>by
   have a:d.imm=true/\D.immL l=true:=by simpa [D.immL] using h
   show (d.imm&&D.immL (l++m))=true;rw[a.1,cg a.2 k];rfl
abbrev Dx.avoid{S:Type}{W:Wd S}(c:Dx W)(av:Addr->Prop):Dx W:=⟨c.K,c.H0,c.Ex,av⟩
def AO(Z:Ag)(ixs:List (Option Nat)):Ag:=ixs.map λo=>match o with
 | some i=>(match Z[i]? with
   | some (.bor d)=>.bor d
   | some (.own d)=>.bor d
   | some .hnd=>.hnd
   | _=>.no)
 | none=>.no
section
variable{S:Type}{W:Wd S}{c:Dx W}{H H1:Hp}{Y:St}{Z:Ag}{st:S}
def eL:¬Ow Y' (AO Z ixs) b:=λhI26=>by
 obtain⟨j,d,h,_⟩:=hI26;unfold AO at h;rw[AX] at h;cases q:ixs[j]? with
 | none=>rw[q] at h;cases h
 | some o=>
   rw[q] at h;cases o with
   | none=>cases h
   | some i=>
     have h:(match Z[i]? with | some (.bor d)=>Sl.bor d | some (.own d)=>.bor d | some .hnd=>.hnd | _=>.no)=Sl.own d:=Option.some.inj h;split at h<;>cases h
def Ax.pick{D:Addr}(R:Ax c H Y Z)(f:W.ok st H)(l:H D=none)(ixs:List (Option Nat)):Ax (c.avoid λb=>c.av b\/b=D) (Af H D (.lst [])) (L2.pick Y ixs) (AO Z ixs) where
 len:=by unfold L2.pick AO;rw[Ai,Ai]
 frame:=λb o h n=>by
  have e:H b=some o:=R.frame b o h n;show Af H D _ b=some o;rw[aj (aF e l)];exact e
 uniq:=λi j a d e g _ _ _=>(eL (Y':=L2.pick Y ixs) (Z:=Z) (ixs:=ixs) (b:=a) {i,d,g,by assumption}).elim
 avl:=λb h=>by
  rcases h with h | h
  ·obtain⟨n,z,o,g,q⟩:=R.avl b h
   exact{n,z,o,by show Af H D _ b=some o;rw[aj (aF g l)];exact g,q}
  ·subst h
   exact{bH f l,R.none0 f l,_,aw,(λu z=>by cases z),λf u z=>by cases z}
 slot:=λj s g=>by
  unfold AO at g;rw[AX] at g;have m:∀{A:Addr->Prop},(∀b,A b->¬W.mv b/\¬c.av b)->AW A (Av (c.avoid λb=>c.av b\/b=D) (L2.pick Y ixs) (AO Z ixs)) H (Af H D (.lst [])):=λ{A} f=>
   bG (λb o e _=>by rw[aj (aF e l)];exact e) λb o a e=>{{(f b a).1,eL,λw=>w.elim (f b a).2 (aF e l)},by rw[aj (aF e l)];exact e}
  cases q:ixs[j]? with
  | none=>rw[q] at g;cases g
  | some o=>
    rw[q] at g;have e:(L2.pick Y ixs)[j]?=(ixs[j]?).map (λo=>match o with | some i=>(Y[i]?).join | none=>none):=by
     unfold L2.pick;rw[AX]
     all_goals rfl
    rw[e,q];cases o with
    | none=>cases g;trivial
    | some i=>
      have g:(match Z[i]? with | some (.bor d)=>Sl.bor d | some (.own d)=>.bor d | some .hnd=>.hnd | _=>.no)=s:=Option.some.inj g;show Jl _ _ _ (Y[i]?).join s;cases h:Z[i]? with
      | none=>rw[h] at g;cases g;trivial
      | some s'=>
        rw[h] at g;have z:=R.slot i s' h;cases s' with
        | no=>cases g;trivial
        | hnd=>cases g;exact z
        | bor d=>cases g;obtain⟨v,e,f⟩:=z;exact{v,e,f.mono (m λb a=>⟨a.1,a.2.2⟩)}
        | own d=>
          cases g;obtain⟨a,e,n,f,t⟩:=z;refine{.ref a,e,?_};have d:=t.mono (c:=c) (m λb a=>⟨a.1,a.2.2⟩) λo z=>by rw[aj (aF z l)];exact z
          obtain⟨o,a,_⟩:=t.there;exact Top.isTop (c:=c) {n.1,eL,λw=>w.elim n.2 (aF a l)} d
end
def DM(S:Type)(G:BD)(t:AV S)(e:Fn S):List D->List D->Ag->S->Ap S (List D)
 | [],acc,_,st=>.ok acc st
 | d::r,acc,Z,st=>(Az (G d Z) st).bind λZ1 st1=>(t Z1 st1).bind λb st2=>if b=true then
    (e Z1 st2).bind λy st3=>if y.imm=true/\acc.length<sizeLine then DM S G t e r (acc++[y]) Z1 st3 else .bad
   else DM S G t e r acc Z1 st2
def Gj(S:Type)(fz:List Nat)(ixs:List (Option Nat))(f:Es S)(G:BD)(t:AV S)(e:Fn S):Fn S:=λZ st=>(f (frz fz Z) st).bind λl st1=>(DM S G t e l [] (AO (frz fz Z) ixs) st1).bind λr st2=>.ok (.lst r) st2
instance DTs(X:Cx){S:Type}{W:Wd S}(c:Dx W)(ifs:List Expr)(t:AV S):Prop:=PTs X ifs (tDT c t)
def PTs.imp(h:PTs X e t)(i:∀Y H Q,t' Y H Q->t Y H Q):PTs X e t':=λa s Y H Q I q=>h a s Y H Q I (i Y H Q q)
def Jo(S:Type):AV S:=λ_ st=>.ok true st
def pY{X:Cx}{S:Type}{W:Wd S}{c:Dx W}:DTs X c [] (Jo S):=po.imp λY H Q ⟨Z,b,R,a,w⟩=>w H Ah.refl a
def wt{X:Cx}{S:Type}{W:Wd S}{c:Dx W}{e:Expr}{t:AV S}(h:DT X c e t):DTs X c [e] t:=pp h
section
variable{X:Cx}{S:Type}{W:Wd S}{c:Dx W}{N':List Str}{ixs:List (Option Nat)}{scope:Scope}{tg iter elt:Expr}{ifs:List Expr}{f:Es S}{G:BD}{t:AV S}{e:Fn S}{pos:Pos}{g:Gr}
instance gEx{S:Type}{W:Wd S}(c:Dx W)(G:BD):TG:=λv Y H Q=>∃av,tG (c.avoid av) G v Y H Q
instance tEx{S:Type}{W:Wd S}(c:Dx W)(t:AV S):TT:=λY H Q=>∃av,tDT (c.avoid av) t Y H Q
instance eEx{S:Type}{W:Wd S}(c:Dx W)(e:Fn S):TE:=λY H Q=>∃av,tD (c.avoid av) .R e Y H Q
def Jp(S:Type){W:Wd S}(c:Dx W)(G:BD)(t:AV S)(e:Fn S)(l:List D)(A:Addr)(H1:Hp)(Pq:D->S->Prop)(Pe:AM->S->Prop)(i:Nat)(Y2:St)(H2:Hp):Prop:=
 ∃Z2 st2 acc ys,Ax (c.avoid λb=>c.av b\/b=A) H2 Y2 Z2/\(∀b,¬Ow Y2 Z2 b)/\W.ok st2 H2/\Ah W H1 H2/\H2 A=some (.lst ys)/\D.immL acc=true/\aa c.K (λ_=>False) H2 acc ys/\
  Ab ((DM S G t e (l.drop i) acc Z2 st2).bind λr st2=>.ok (.lst r) st2) Pq Pe
instance cPq(S:Type){W:Wd S}(c:Dx W)(g:Gr)(Y:St)(Z:Ag)(H:Hp)(Q:VK):D->S->Prop:=λd st'=>∀v H',Ah W H H'->W.ok st' H'->BH c g Y Z H H' d v->Q v H'
instance cPe(S:Type){W:Wd S}(c:Dx W)(H:Hp):AM->S->Prop:=λx st'=>∀H',Ah W H H'->W.ok st' H'->c.Ex x st' H'
def gn{o:HO}{l:List V}(s:DL o):o≠.lst l:=by
 rintro rfl;rcases s with⟨_,e⟩ | ⟨_,_,e⟩<;>cases e
def jN{o:List Nat}(h:tD c g (Gj S o ixs f G t e) Y H Q):HK (tI c f) ixs (gEx c G) (tEx c t) (eEx c e) Y H Q:=by
 obtain⟨Z,a,R,b,w⟩:=h;obtain⟨i,d⟩:=R.frz b o;refine{frz o Z,a,i,b,ak (ae.mp w) (λl n q J H1 I a s=>?_) λx n q=>q};have j:=R.ext b I;have d:=i.ext b I;intro A O;have E:¬W.mv A:=bH a O;have hA0:H A=none:=I.none a O;refine{λi m p H2=>i<=l.length/\m=l.length-i/\Jp S c G t e l A H1 (cPq S c g Y Z H Q) (cPe S c H) i p H2,{l.length,AR _,rfl,AO (frz o Z) ixs,n,[],[],d.pick a O ixs,λb=>eL,aY a O,Ah.laid O,aw,rfl,aa.nil.mpr rfl,by rw[Fp];exact q},?_};intro i m p H2 u;obtain⟨hle,rfl,L,d,j,J,R2,v,B,M,hA2,im,il,U⟩:=u;have r:AW (Av c Y (frz o Z)) (Av (c.avoid λb=>c.av b\/b=A) p L) H1 H2:=bG (λb o h tt=>M b o h λm=>by
  obtain⟨o',h',y,C⟩:=W.live n H1 b a m;rw[h] at h';cases h';rcases tt with⟨u,z⟩ | ⟨ob,u,z⟩
  ·exact y u z
  ·exact C ob u z) λb o a h=>{{a.1,v b,λw=>w.elim a.2.2 (aF h O)},M b o h a.1}
 obtain⟨y,h2⟩:=s (c.avoid λb=>c.av b\/b=A) rfl p L H2 d r R2 B i;by_cases C:i<l.length
 ·have p:l[i]?=some l[i]:=Ba C
  obtain⟨r,s⟩:=y _ p;rw[GO C] at U;refine .inr {r,λp H3=>Jp S c G t e l A H1 (cPq S c g Y Z H Q) (cPe S c H) (i+1) p H3,λp H3 r=>{l.length-(i+1),Nat.sub_lt_sub_left C (Nat.lt_succ_self i),C,rfl,r},λx H3 y=>?_};obtain⟨N,iv⟩:=s x H3 y;have P:Ah W H2 H3:=N.ext;have s:W.ok d H3:=W.stay d H2 H3 B (λb o _ p=>N b o p) λb o p _=>N b o p
  have R3:=R2.ext (c:=c.avoid λb=>c.av b\/b=A) B P;have U:Ab (((Az (G l[i] L) d).bind λF n=>(t F n).bind λb d=>if b=true then
   (e F d).bind λy n=>if y.imm=true/\j.length<sizeLine then DM S G t e (l.drop (i+1)) (j++[y]) F n else .bad
   else DM S G t e (l.drop (i+1)) j F d).bind λr d=>.ok (.lst r) d) (cPq S c g Y Z H Q) (cPe S c H):=U
  obtain⟨F,n,Z⟩:=au.mp (ae.mp (ae.mp U));refine{(λb=>c.av b\/b=A),L,_,F,d,R3,s,iv,n,λY4 Q T=>?_};have L:∀b,¬Ow Y4 F b:=λb r=>by
   obtain⟨n,_,o,Y,_⟩:=Q.owOk r;exact v b (T.own b o Y n r)
  refine{(λb=>c.av b\/b=A),F,d,Q,s,ak (ae.mp Z) (λb v q5 H5 r d=>?_) λx v q H5 r d=>q H5 ((I.trans M).trans (P.trans r)) d};have R5:=Q.ext (c:=c.avoid λb=>c.av b\/b=A) s r;have hA5:H5 A=some (.lst J):=r A _ (N A _ hA2) E;cases b with
  | false=>
    exact{F,v,j,J,R5,L,d,M.trans (P.trans r),hA5,im,(il.ext P B λ_ z=>z.elim).ext r s λ_ z=>z.elim,ae.mpr q5}
  | true=>
    refine{(λb=>c.av b\/b=A),F,v,R5,d,ak (ae.mp q5) (λy N q6 v H6 T Q z6=>?_) λx N q H6 T Q=>q H6 ((I.trans M).trans (P.trans (r.trans T))) Q};by_cases Y:y.imm=true/\j.length<sizeLine
    ·rw[if_pos Y] at q6
     have q:H6 A=some (.lst J):=T A _ hA5 E;have Z:aa c.K (λ_=>False) H6 j J:=((il.ext P B λ_ z=>z.elim).ext r s λ_ z=>z.elim).ext T d λ_ z=>z.elim
     refine{J,q,by rw[<-Z.length];exact Y.2,F,N,j++[y],J++[v],?_,L,?_,?_,aw,?_,?_,ae.mpr q6}
     ·-- the slots do not see the list
      have x:=R5.ext (c:=c.avoid λb=>c.av b\/b=A) d T;have j:∀b,Av (c.avoid λb=>c.av b\/b=A) Y4 F b->b≠A:=λb a z=>a.2.2 (.inr z)
      have k:AW (Av (c.avoid λb=>c.av b\/b=A) Y4 F) (Av (c.avoid λb=>c.av b\/b=A) Y4 F) H6 (Af H6 A (.lst (J++[v]))):=bG (λb o h tt=>by
       have p:b≠A:=bQ h q (gn tt);rw[aj p];exact h) λb o a h=>{a,by rw[aj (j b a)];exact h}
      refine{x.len,λb o h n=>?_,λj s hs=>?_,λb h=>?_,x.uniq}
      ·have p:b≠A:=aF h (x.avl A (.inr rfl)).2.1
       rw[aj p];exact x.frame b o h n
      ·have F:=x.slot j s hs
       cases s with
       | no=>trivial
       | bor d=>obtain⟨v',I,i1⟩:=F;exact{v',I,i1.mono k}
       | own d=>obtain⟨a,ea,_,_,_⟩:=F;exact(L a {j,d,hs,bC ea}).elim
       | hnd=>exact F
      ·obtain⟨n,z,o,h',d⟩:=x.avl b h
       by_cases p:b=A
       ·exact{n,z,_,(congrArg (Af H6 A _) p).trans aw,(λu z=>by cases z),λob u z=>by cases z}
       ·exact{n,z,o,by rw[aj p];exact h',d}
     ·refine W.stay N H6 _ Q (λb o m h=>?_) λb o h s=>?_
      ·have p:b≠A:=λz=>E (z▸m)
       rw[aj p];exact h
      ·have p:b≠A:=bQ h q (gn s)
       rw[aj p];exact h
     ·intro b o h n
      have p:b≠A:=aF h O;rw[aj p];exact((M.trans (P.trans (r.trans T))) b o h n)
     ·exact cg im (by simp[D.immL,Y.1])
     ·have d:Is c.K (λ_=>False) H6 y v:=Is.ofImm Y.1 z6
      have j:AW (λ_=>False) (λ_=>False) H6 (Af H6 A (.lst (J++[v]))):=bG (λb o h tt=>by
       have p:b≠A:=bQ h q (gn tt);rw[aj p];exact h) λb o a h=>a.elim
      exact(Z.append (aa.one d)).mono j
    ·rw[if_neg Y] at q6;exact q6.elim
 ·have a:i=l.length:=Fk hle (FH C)
  rw[a,List.drop_length] at U;refine .inl {h2 (BX a.symm),U (.ref A) H2 (I.trans M) B (AE.val R ?_ g)};exact Is.lst ⟨E,hA0⟩ hA2 (aa.ofImm im il)
def pZ(i:List Nat)(j:EJ X N' ixs scope)(n:X.calm=true)(m:DI X c tg iter f)(b:∀a h C s H d,DG (BS X N' scope h C s H d) (c.avoid a) tg G/\DTs (BS X N' scope h C s H d) (c.avoid a) ifs t/\DE (BS X N' scope h C s H d) (c.avoid a) .R elt e)(l:autoParam (∀x,foldedSetIterable iter X.env x=pure x) z0c._auto_1):DE X c g (.ListComp elt [⟨tg,iter,ifs,0⟩] scope pos) (Gj S i ixs f G t e):=
 (pq (g:=gEx c G) (tc:=tEx c t) (te:=eEx c e) j n m (λh C s H d=>
  {λj s' Y i v u Q I r ⟨a,q⟩=>(b a h C s H d).1 j s' Y i v u Q I r q,λj s' Y i Q I ⟨a,q⟩=>(b a h C s H d).2.1 j s' Y i Q I q,λj s' Y i Q I ⟨a,q⟩=>(b a h C s H d).2.2 j s' Y i Q I q}) l).imp λY H Q q=>jN (g:=g) q
def wu{i:Nat}{y:Str}{n b:Pos}(o:List Nat)(r:EJ X N' ixs scope)(u:X.calm=true)(q:X.N.Nodup)(m:X.N[i]?=some y)(p:X.env.scope.names.lookup y=some .local)(A:DI X c tg iter f)(h:∀a j C s H d,DG (BS X N' scope j C s H d) (c.avoid a) tg G/\DTs (BS X N' scope j C s H d) (c.avoid a) ifs t/\DE (BS X N' scope j C s H d) (c.avoid a) .R elt e)(l:swapsWith (.ListComp elt [{tg,iter,ifs,0}] scope pos) (some (.Name y n)) b.line X.env=pure true)(z:autoParam (∀x,foldedSetIterable iter X.env x=pure x) z0c._auto_1):DS X c (.Assign [.Name y n] (.ListComp elt [⟨tg,iter,ifs,0⟩] scope pos) b) (Gh S i (Gj S o ixs f G t e)):=
 (pu (g:=gEx c G) (tc:=tEx c t) (te:=eEx c e) r u q m p A (λj C s H d=>
  {λb s' Y i v u Q I r ⟨a,q⟩=>(h a j C s H d).1 b s' Y i v u Q I r q,λb s' Y i Q I ⟨a,q⟩=>(h a j C s H d).2.1 b s' Y i Q I q,λb s' Y i Q I ⟨a,q⟩=>(h a j C s H d).2.2 b s' Y i Q I q}) l z).imp λD Y H q=>jN (g:=.F) (jJ q)
def Ci(S:Type)(t:AV S)(B:Ay S):Nat->Ay S
 | 0,_,_=>.bad
 | n+1,Z,st=>(t Z st).bind λb st1=>if b=true then (B Z st1).bind λfl st2=>match fl with
    | .nx Z2=>Ci S t B n Z2 st2
    | .ct Z2=>Ci S t B n Z2 st2
    | .bk Z2=>.ok (.nx Z2) st2
    | .rt d=>.ok (.rt d) st2
   else .ok (.nx Z) st1
open Classical in
def FR(S:Type)(t:AV S)(B:Ay S):Ay S:=λZ st=>if h:∃n,Ci S t B n Z st≠.bad then Ci S t B h.choose Z st else .bad
theorem eM:∀(n k:Nat) (Z:Ag) (i:S),Ci S t B n Z i≠.bad->Ci S t B (n+k) Z i=Ci S t B n Z i
 | 0,_,_,_,h=>(h rfl).elim
 | n+1,k,Z,i,h=>by
   rw[show n+1+k=(n+k)+1 by omega];unfold Ci at h ⊢;cases q:t Z i with
   | bad=>rfl
   | exc x s=>rfl
   | ok b a=>
     rw[q] at h;simp only[Ap.bind_ok] at h ⊢;cases b with
     | false=>rfl
     | true=>
       simp only[if_true] at h ⊢;cases q2:B Z a with
       | bad=>rfl
       | exc x s=>rfl
       | ok d a=>
         rw[q2] at h;simp only[Ap.bind_ok] at h ⊢;cases d with
         | nx b=>exact eM n k b a h
         | ct b=>exact eM n k b a h
         | bk b=>rfl
         | rt d=>rfl
def jO{t:AV S}{B:Ay S}{n:Nat}{Z:Ag}{a:S}(h:Ci S t B n Z a≠.bad):FR S t B Z a=Ci S t B n Z a:=by
 unfold FR;have b:∃n,Ci S t B n Z a≠.bad:=⟨n,h⟩;rw[dif_pos b];have i:=eM n b.choose Z a h;have d:=eM b.choose n Z a b.choose_spec;rw[CK] at d;exact d.symm.trans i
def p9{b:Expr}{a:List Stmt}{t:AV S}{B:Ay S}(i:PassesOwn 'e' X.A X.env X.xe)(d:DT X c b t)(h:CM X c a B):DS X c (.While b a [] pos) (FR S t B):=
 (nV i d h).imp λD Y H hI27=>by
  obtain⟨Z,b,R,d,w⟩:=hI27;have a:∃n,Ci S t B n Z b≠.bad:=by
   apply Classical.byContradiction;intro h;unfold FR at w;rw[dif_neg h] at w;exact w
  obtain⟨n,h⟩:=a;rw[jO h] at w;refine{λm o H2=>∃i a,Ax c H2 o i/\W.ok a H2/\Ab (Ci S t B m i a) (CT c D o i H2) (Dd c),⟨n,Z,b,R,d,w⟩,?_};rintro m o H2 ⟨i,a,R2,h,d⟩;cases m with
  | zero=>exact d.elim
  | succ m=>
    refine{i,a,R2,h,ak (ae.mp d) (λb p q3 H3 l d=>?_) λx p q H3 l d=>q H3 (l.f0 R2) d};have r:=R2.ext h l;cases b with
    | false=>exact q3 o H3 l.frm d r
    | true=>
      refine dc ?_;refine{λn h=>∃j a,Ax c h n j/\W.ok a h/\Ab (Ci S t B m j a) (CT c D n j h) (Dd c),λn h q=>{m,Nat.lt_succ_self m,q},i,p,r,d,ak (ae.mp q3) (λr a p=>?_) λx a q=>q};have Ca:∀b,Ab (Ci S t B m b a) (CT c D o i H2) (Dd c)->Nx c (λn h=>∃j a,Ax c h n j/\W.ok a h/\Ab (Ci S t B m j a) (CT c D n j h) (Dd c)) o i H3 b a:=
       λb q5 m H5 i h j=>{b,a,j,h,ak q5 (λr d q=>q.from (l.frm.trans i)) λx d q=>q}
      cases r with
      | nx b=>exact Ca b p
      | ct b=>exact Ca b p
      | bk b=>exact λm H5 i h j=>p m H5 (l.frm.trans i) h j
      | rt d=>exact p
end
def Bh(n:Nat)(l:List D):Ag:=l.map Sl.bor++List.replicate (n-l.length) .no
def Bi(n:Nat)(l:List D):Ag:=Sl.hnd::(l.map Sl.bor++List.replicate (n-1-l.length) .no)
def Jq{S:Type}(r:Ap S Fl):Ap S D:=match r with
 | .ok (.rt d) st=>.ok d st
 | .ok (.nx _) st=>.ok .non st
 | .ok _ _=>.bad
 | .exc x st=>.exc x st
 | .bad=>.bad
def Bj(n p:Nat)(B:Ay Unit):List D->Ap Unit D:=λl=>if l.length=p/\p<=n then Jq (B (Bh n l) ()) else .bad
def CU{S:Type}(n p:Nat)(B:Ay S):List D->S->Ap S D:=λl st=>if l.length+1=p/\p<=n then Jq (B (Bi n l) st) else .bad
abbrev cx0(K:FG)(H:Hp):Dx W0:={K,H,λ_ _ _=>False,λ_=>False}
abbrev cxS{S:Type}(W:Wd S)(K:FG)(H:Hp):Dx W:={K,H,λ_ _ _=>False,λ_=>False}
def dV{n:Nat}{i:Nat}(h:(Bh n l)[i]?=some s):(∃d,s=.bor d/\l[i]?=some d)\/s=.no:=by
 unfold Bh at h;by_cases a:i<l.length
 ·rw[List.getElem?_append_left (by rw[Ai];exact a),AX] at h
  cases q:l[i]? with
  | none=>rw[q] at h;cases h
  | some d=>rw[q] at h;cases h;exact .inl ⟨d,rfl,rfl⟩
 ·rw[List.getElem?_append_right (by rw[Ai];omega),List.getElem?_replicate] at h
  split at h
  ·cases h;exact .inr rfl
  ·cases h
def gp{i:Nat}(h:a[i]?=some v):(start N a)[i]?=some (some v):=by
 unfold start;have b:i<a.length:=(Bd.mp h).1;rw[List.getElem?_append_left (by rw[Ai];exact b),AX,h];rfl
open H in
def qb{K:FG}{H:Hp}{N:List Str}{l:List D}{c:List V}(a:l.length<=N.length)(h:aa K (λ_=>True) H l c):Ax (cx0 K H) H (start N c) (Bh N.length l):=by
 have g:∀b,¬Ow (start N c) (Bh N.length l) b:=λb hI28=>by
  obtain⟨i,d,f,_⟩:=hI28;rcases dV f with⟨_,z,_⟩ | z<;>cases z
 refine{?_,λb o e _=>e,λi s l=>?_,λb z=>z.elim,λi j a d e f _ _ _=>?_}
 ·unfold start Bh
  rw[A4,A4,Ai,Ai,List.length_replicate,List.length_replicate,h.length]
 ·rcases dV l with⟨d,rfl,a⟩ | rfl
  ·obtain⟨v,d,e⟩:=h.get a
   exact{v,by rw[gp d];rfl,e.mono {λ_ _ z _=>z,λb o _ z=>{{λm=>m,g b,λm=>m},z}}}
  ·trivial
 ·rcases dV f with⟨_,z,_⟩ | z<;>cases z
section
variable{P:Program}{w:World}{K:FG}{mg:Str->Option Value}{base:Heap}
open H in
def CL.d0{x b:Str}{g:Stmt}{f:Addr}{e:FuncData}{N d:List Str}{k:Nat}{B:Ay Unit}(F:CL K x b g f e)(S:D2 N d (A9 g))(j:∀(c:Value) (A:Around) (a:List Env) (s:Shared) (H:Hp) (E:XK),Bc k (A.deeper (envOfC b (A9 g) s.heap.objs.size f c))->
  CM (Do CX0 P w K mg base N b (A9 g) f c A a s H E).nox (cx0 K H) (Co g) B):Cn P w K mg base CX0 (k+1) f e d (sp0 K (Bj N.length d.length B)):=by
 refine F.ok S (λb H Q E h=>?_) λc A a s H b Q E d h=>?_
 ·obtain⟨l,i,w⟩:=h
  unfold Bj at w;split at w
  ·rename_i b
   rw[<-i.length];exact b.1
  ·exact w.elim
 ·obtain⟨l,i,w⟩:=h
  unfold Bj at w;split at w
  ·rename_i b
   refine{_,j c A a s H E d,Bh N.length l,(),qb 'o' i,trivial,?_};cases q:B (Bh N.length l) () with
   | bad=>rw[q] at w;exact w.elim
   | exc x u=>rw[q] at w;exact w.elim
   | ok h u=>
     rw[q] at w;have fin:∀d v c,F0 (cx0 K H) c->Is K (λb=>¬W0.mv b/\H b=none) c d v->(∀v c,Ch H c->Is K (λb=>H b=none) c d v->Q v c)->Q v c:=λd v c f z q=>
      q v c (λb o e=>f b o e λm=>m) (z.mono {λ_ _ z _=>z,λb o a z=>⟨a.2,z⟩})
     cases h with
     | rt d=>exact λv c f _ z=>fin d v c f z w
     | nx Z=>exact λf c d _ a=>fin .non .non c (λb o e n=>a.frame b o e n) (Is.non_iff.mpr rfl) w
     | bk Z=>exact w.elim
     | ct Z=>exact w.elim
  ·exact w.elim
open H in
def CL.dS{Sx:Type}{W:Wd Sx}{x qual:Str}{st:Stmt}{f:Addr}{fd:FuncData}{N ps:List Str}{k:Nat}{B:Ay Sx}(F:CL K x qual st f fd)(S:D2 N ps (A9 st))(hb:∀(cdv:Value) (A:Around) (outer:List Env) (s:Shared) (H:Hp) (E:XK),Bc k (A.deeper (envOfC qual (A9 st) s.heap.objs.size f cdv))->
  CM (Do CX0 P w K mg base N qual (A9 st) f cdv A outer s H E).nox (cxS W K H) (Co st) B):Cn P w K mg base CX0 (k+1) f fd ps (spS W K (CU N.length ps.length B)):=by
 refine F.ok S (λvs H Q E h=>?_) λcdv A outer s H vs Q E hr h=>?_
 ·obtain⟨l,us,st0,rfl,i,ok,w⟩:=h
  unfold CU at w;split at w
  ·rename_i hl
   rw[B1,<-i.length];exact hl.1
  ·exact w.elim
 ·obtain⟨l,us,st0,rfl,i,ok,w⟩:=h
  unfold CU at w;split at w
  ·rename_i hl
   have no:∀b,¬Ow (start N (W.h::us)) (Bi N.length l) b:=λb hI29=>by
    obtain⟨j,d,h1,_⟩:=hI29;unfold Bi at h1;cases j with
    | zero=>cases h1
    | succ j=>
      have h1:(l.map Sl.bor++List.replicate (N.length-1-l.length) .no)[j]?=some (.own d):=by simpa using h1
      rcases dV (n:=N.length-1) h1 with⟨_,z,_⟩ | z<;>cases z
   have R:Ax (cxS W K H) H (start N (W.h::us)) (Bi N.length l):=by
    refine{?_,λb o e _=>e,λj s hs=>?_,λb z=>z.elim,λj j' a d e h1 _ h3 _=>(no a ⟨j,d,h1,h3⟩).elim}
    ·unfold start Bi
     simp only[A4,B1,Ai,List.length_replicate];have:=i.length;omega
    ·unfold Bi at hs
     cases j with
     | zero=>cases hs;exact by rw[gp (v:=W.h) rfl];rfl
     | succ j=>
       have hs:(l.map Sl.bor++List.replicate (N.length-1-l.length) .no)[j]?=some s:=by simpa using hs
       rcases dV (n:=N.length-1) hs with⟨d,rfl,hd⟩ | rfl
       ·obtain⟨v,hv,iv⟩:=i.get hd
        exact{v,by rw[gp (v:=v) (by simpa using hv)];rfl,iv.mono {λ_ _ z _=>z,λb o a z=>{{a,no b,λm=>m},z}}}
       ·trivial
   refine{_,hb cdv A outer s H E hr,Bi N.length l,st0,R,ok,?_};cases q:B (Bi N.length l) st0 with
   | bad=>rw[q] at w;exact w.elim
   | exc x u=>rw[q] at w;exact w.elim
   | ok fl u=>
     rw[q] at w;cases fl with
     | rt d=>exact λv H' f0 ok' z=>w v H' f0 ok' z
     | nx Z=>exact λY' H' fr ok' R'=>w .non H' (λb o e n=>R'.frame b o e n) ok' (Is.non_iff.mpr rfl)
     | bk Z=>exact w.elim
     | ct Z=>exact w.elim
  ·exact w.elim
end
structure Dq(P:Program)(w:World)(K:FG)(mg:Str->Option Value)(base:Heap)(k:Nat)(x:Str)(ps:List Str)(sp:Sp):Prop where
 ex:∃f fd,mg x=some (.ref f)/\keepIn K (.ref f)=true/\FP K fd ps []/\Cn P w K mg base CX0 k f fd ps sp
section
variable{X:Cx}{S:Type}{W:Wd S}{c:Dx W}{g:Gr}{k:Nat}{x:Str}{ps:List Str}{p pos:Pos}{e:Expr}{es:List Expr}
def jP{G:List D->Ap Unit D}{f:A5 S}(C:Dq X.prog X.w X.K X.mg X.base k x ps (sp0 c.K G))(i:Bc k X.A)(h:Gl X x)(m:DA X c (e::es) f)(b:autoParam 'u' uD)(l:autoParam 's' uR)(a:autoParam 'i' uR):DE X c g (.Call (.Name x p) (e::es) [] pos) (G7 S G f):=by
 obtain⟨o,n,j,f,d,F⟩:=C.ex;exact(fZ (E:=E0) F i h j f d .nil gf m b l a).imp λY H Q q=>pP q
def wv{G:List D->S->Ap S D}{f:A5 S}{i:Nat}{y:Str}{a:Pos}(C:Dq X.prog X.w X.K X.mg X.base k x ps (spS W c.K G))(m:Bc k X.A)(j:Gl X x)(l:PE X (.Name y a) (BA i))(n:DA X c es f)(d:autoParam 'u' uD)(h:autoParam (starEach (.Name y a::es) X.env=(false,eval (.Name y a) X.env)::starEach es X.env) uR)(b:autoParam 'i' uR):DE X c g (.Call (.Name x p) (.Name y a::es) [] pos) (Gg S G i f):=by
 obtain⟨q,o,i,f,a,F⟩:=C.ex;exact(fZ (E:=E0) F m j i f a .nil gf (bp l n h) d h b).imp λY H Q q=>pQ q
end
section
variable{S:Type}
def bD{i:Int}:AE c H H' (.int i) (.int i):=Is.int_iff.mpr rfl
def bJ{i:Bool}:AE c H H' (.bl i) (.bl i):=Is.bl_iff.mpr rfl
instance iOp(C:Int->Int->Prop)[∀i j,Decidable (C i j)](g:Int->Int->D):D->D->Option D
 | .int i,.int j=>if C i j then some (g i j) else none
 | _,_=>none
def AD(g:Int->Int->D):D->D->Option D
 | .int i,.int j=>some (g i j)
 | _,_=>none
open H in
def qc{C:Int->Int->Prop}[∀i j,Decidable (C i j)]{g:Int->Int->Int}:Bg c (rI C λi j=>.int (g i j)) (iOp C λi j=>.int (g i j)):=by
 intro b a f e H g d Q b c a e q;unfold iOp at e;split at e
 ·rename_i i j
  split at e
  ·rename_i h
   cases e;exact{i,j,Is.int_iff.mp c,Is.int_iff.mp a,h,q _ H Ah.refl b bD}
  ·cases e
 ·cases e
open H in
def qd{g:Int->Int->Int}:Bg c (DX λi j=>.int (g i j)) (AD λi j=>.int (g i j)):=by
 intro b a f e H g d Q b c a e q;unfold AD at e;split at e
 ·rename_i i j
  cases e;exact{i,j,Is.int_iff.mp c,Is.int_iff.mp a,q _ H Ah.refl b bD}
 ·cases e
open H in
def qe{g:Int->Int->Bool}:Bg c (DX λi j=>.bl (g i j)) (AD λi j=>.bl (g i j)):=by
 intro b a f e H g d Q b c a e q;unfold AD at e;split at e
 ·rename_i i j
  cases e;exact{i,j,Is.int_iff.mp c,Is.int_iff.mp a,q _ H Ah.refl b bJ}
 ·cases e
theorem Bg.or(h:Bg c r o)(n:Bg c r' o'):Bg c (λx y H Q=>r x y H Q\/r' x y H Q) (λa b=>(o a b).or (o' a b)):=by
 intro f c i l H m d Q j g b e q;cases a:o f c with
 | some d'=>
   have e:some d'=some d:=by simpa [a] using e
   cases e;exact .inl (h f c i l H m d Q j g b a q)
 | none=>
   have e:o' f c=some d:=by simpa [a] using e
   exact .inr (n f c i l H m d Q j g b e q)
@[reducible]instance (i j:Int):Decidable (GW i j):=by unfold GW;infer_instance
@[reducible]instance (i j:Int):Decidable (DK i j):=by unfold DK;infer_instance
@[reducible]instance (i j:Int):Decidable (GX i j):=by unfold GX;infer_instance
@[reducible]instance (i j:Int):Decidable (Jb i j):=by unfold Jb;infer_instance
def Au:D->D->Option D
 | .tup l,.int i=>im (BC l i)
 | .lst l,.int i=>im (BC l i)
 | _,_=>none
def gq{K:FG}{A:Addr->Prop}{H:Hp}{l:List D}{a:List V}{i:Int}{d:D}(z:aa K A H l a)(h:BC l i=some d):∃v,BC a i=some v/\Is K A H d v:=by
 unfold BC at h ⊢;rw[<-z.length];cases q:B3 l.length i with
 | none=>rw[q] at h;cases h
 | some j=>
   rw[q] at h;exact z.get (i:=j) h
def df(h:im o=some d):o=some d/\d.imm=true:=by
 cases o with
 | none=>cases h
 | some x=>
   have h:(if x.imm=true then some x else none)=some d:=h;split at h
   ·cases h;exact{rfl,by assumption}
   ·cases h
open H in
def jQ{K:FG}(n:c.K=K):Bg c (rIx K) Au:=by
 intro b a c e H f d Q j h g e q;unfold Au at e;split at e
 ·rename_i l i
  obtain⟨a,b,f,s,z⟩:=Is.tup_sq h;obtain⟨e,m⟩:=df e;obtain⟨v,c,d⟩:=gq z e;exact .inr (.inl {a,b,i,v,f,Is.int_iff.mp g,n▸s,c,q v H Ah.refl j (AE.imm m d)})
 ·rename_i l i
  obtain⟨a,b,f,n,s,z⟩:=Is.lst_iff.mp h;obtain⟨e,m⟩:=df e;obtain⟨v,c,d⟩:=gq z e;exact .inl {a,b,i,v,f,Is.int_iff.mp g,.of s,c,q v H Ah.refl j (AE.imm m d)}
 ·cases e
end
section
variable{X:Cx}{S:Type}{W:Wd S}{c:Dx W}{H H':Hp}{Y:St}{Z:Ag}{st:S}{i:Nat}{d d':D}{a:Addr}{o:HO}
open H in
def jR(h:Z[i]?=some (.own d))(b:Addr):Ow Y (Z.set i (.own d')) b↔Ow Y Z b:=by
 have f:i<Z.length:=(Bd.mp h).1;constructor
 ·rintro ⟨j,e,g,b⟩
  rcases aT g with⟨m,_⟩ | ⟨_,z⟩
  ·subst m;exact⟨j,d,h,b⟩
  ·exact⟨j,e,z,b⟩
 ·rintro ⟨j,e,g,b⟩
  by_cases m:j=i
  ·subst m;exact{j,d',GS f,b}
  ·exact{j,e,by rw[Dy (Ne.symm m)];exact g,b}
open H in
def Ax.wr(R:Ax c H Y Z)(p:Z[i]?=some (.own d))(v:Y[i]?=some (some (.ref a)))(ht:(∀u,o≠.tup u)/\∀y u,o≠.frz y u)(h:AW (Av c Y Z) (Av c Y Z) H (Af H a o)->Top c.K (Av c Y Z) (Af H a o) d' a):Ax c (Af H a o) Y (Z.set i (.own d'))/\Bb c H Y Z (Af H a o) Y (Z.set i (.own d')):=by
 have U:i<Z.length:=(Bd.mp p).1;have A:Ow Y Z a:=⟨i,d,p,v⟩;obtain⟨nm,h0,o1,L,n1,n2⟩:=R.owOk A;have k:AW (Av c Y Z) (Av c Y Z) H (Af H a o):=bG (λb u e t=>by
  have l:b≠a:=λz=>by
   subst z;rw[L] at e;cases e;rcases t with⟨w,z⟩ | ⟨y,w,z⟩
   ·exact n1 w z
   ·exact n2 y w z
  rw[aj l];exact e) λb u F e=>{F,by rw[aj (λ(z:b=a)=>F.2.1 (z▸A))];exact e}
 have r:Av c Y (Z.set i (.own d'))=Av c Y Z:=by
  funext b;unfold Av;rw[jR (Y:=Y) (d':=d') p b]
 have T:=h k;refine{{by rw[CI];exact R.len,λb u e n=>?_,λj s hs=>?_,λb l=>?_,λj E b e e' C G M J=>?_},{λb u e n w=>?_,λb u e n w=>(jR p b).mp w}}
 ·have l:b≠a:=λz=>by subst z;rw[show c.H0 b=none from h0] at e;cases e
  rw[aj l];exact R.frame b u e n
 ·rw[r]
  rcases aT hs with⟨m,z⟩ | ⟨nj,z⟩
  ·subst z m
   obtain⟨b,g,n,f,t⟩:=R.slot j _ p;rw[v] at g;have g:some (V.ref a)=some (V.ref b):=g;cases g;exact{a,by rw[v];rfl,n,f,T}
  ·have q:=R.slot j s z
   cases s with
   | no=>trivial
   | bor e=>obtain⟨v',g,O⟩:=q;exact{v',g,O.mono k}
   | own e=>
     obtain⟨b,g,n,f,t⟩:=q;have l:b≠a:=λz'=>by
      subst z';exact nj (R.uniq j i b e d z p (bC g) v)
     exact{b,g,n,f,t.mono k λu z=>by rw[aj l];exact z}
   | hnd=>exact q
 ·obtain⟨n,z,u,I,q⟩:=R.avl b l
  have B:b≠a:=λz'=>by
   subst z';obtain⟨b',g,Q,_⟩:=R.slot i _ p;rw[v] at g;have g:some (V.ref b)=some (V.ref b'):=g;cases g;exact Q.2 l
  exact{n,z,u,by rw[aj B];exact I,q}
 ·have x:∀(j:Nat) (e:D),(Z.set i (.own d'))[j]?=some (.own e)->∃e',Z[j]?=some (.own e'):=λj e C=>by
   rcases aT C with⟨m,_⟩ | ⟨_,z⟩
   ·subst m;exact⟨d,p⟩
   ·exact⟨e,z⟩
  obtain⟨P,y1⟩:=x j e C;obtain⟨N,y2⟩:=x E e' G;exact R.uniq j E b P N y1 y2 M J
 ·have l:b≠a:=λz=>w (z▸A)
  rw[aj l];exact e
def AF(Z:Ag)(i:Nat):Option (List D):=match Z[i]? with
 | some (.own (.lst l))=>if D.immL l=true then some l else none
 | _=>none
def cG(h:AF Z i=some l):Z[i]?=some (.own (.lst l))/\D.immL l=true:=by
 unfold AF at h;split at h
 ·split at h
  ·cases h;exact{by assumption,by assumption}
  ·cases h
 ·cases h
def bK(h:AF Z i=some l):Z[i]?=some (.own (.lst l)):=(cG h).1
def Ax.lstAt(R:Ax c H Y Z)(h:AF Z i=some l):∃a b,Y[i]?=some (some (.ref a))/\H a=some (.lst b)/\aa c.K (Av c Y Z) H l b/\¬W.mv a:=by
 obtain⟨a,e,n,f,b,g,z⟩:=R.slot i _ (bK h);exact{a,b,bC e,g,z,n.1}
def bv(f:W.ok st H)(n:¬W.mv a)(e:H a=some u)(ns:¬DL u:=by (intro s;rcases s with⟨_,e⟩ | ⟨_,_,e⟩<;>cases e)):W.ok st (Af H a o):=W.stay st H _ f (λb u m e=>by rw[aj (λ(z:b=a)=>n (z▸m))];exact e) λb u h s=>by
 rw[aj (λ(z:b=a)=>by subst z;rw[e] at h;cases h;exact ns s)];exact h
instance sMt(S:Type)(i:Nat)(o:List D->D->Option (List D))(f:Fn S):Ay S:=λZ st=>match AF Z i with
 | some l=>(f Z st).bind λd st1=>(Az (o l d) st1).bind λl' st2=>.ok (.nx (Z.set i (.own (.lst l')))) st2
 | none=>.bad
instance MtD{S:Type}{W:Wd S}(c:Dx W)(r:V->List V->Hp->VK->Prop)(o:List D->D->Option (List D)):Prop:=∀l d l' a vs v H (Q:VK),o l d=some l'->H a=some (.lst vs)->aa c.K 'w' H l vs->Is c.K 'w' H d v->
 (∀us,(D.immL l=true->D.immL l'=true/\aa c.K 'w' H l' us)->Q .non (Af H a (.lst us)))->r (.ref a) [v] H Q
def qf{x m:Str}{b:String}{e:Expr}{f:Fn S}{l q j u:Pos}{r:V->List V->Hp->VK->Prop}{o:List D->D->Option (List D)}(B:MtR X b r)(y:MtD c r o)(n:Slot "list" m b)(r:typeOf (.builtin b)=pure (.type "method_descriptor"))(z:PE X (.Name x l) (BA i))(A:DE X c .R e f)(b:c.K=X.K)(g:autoParam (attributeBase (.Name x l) m X.env (eval (.Name x l) X.env)=eval (.Name x l) X.env) uR)(p:autoParam (((backTo j (starEach [e] X.env)).all (λx=>!x.1)&&(backToKw j (keywordEach [] X.env)).all (λx=>x.1.isSome)
  && decide (([e]:List Expr).length+([]:List Keyword).length+(if ([]:List Keyword).isEmpty then 0 else 1)<30))=true) uR)(h:autoParam ((q.endLine == j.line)=true) uR)(v:autoParam (starEach [e] X.env=(false,eval e X.env)::starEach [] X.env) uR)(b:autoParam ((backTo j (starEach [] X.env)).any (·.1)=false) uR)(s:autoParam (swapsWith (.Call (.Attribute (.Name x l) m q) [e] [] j) none u.line X.env=pure false) uR) :
 DS X c (.Expr (.Call (.Attribute (.Name x l) m q) [e] [] j) u) (sMt S i o f):=
 (ey (cw PySem.F.plainAttrs_list n r B z (bp A bu v) g p h v b) s).imp λD Y H hI30=>by
  obtain⟨Z,st,R,h,w⟩:=hI30;unfold sMt at w;cases q:AF Z i with
  | none=>rw[q] at w;exact w.elim
  | some l=>
    rw[q] at w;obtain⟨a,n,r,m,z,j⟩:=R.lstAt q;refine{.ref a,r,.inl {rfl,n,.of m},Z,st,R,h,ak (ae.mp w) (λd b q v H1 e f u=>?_) λx b q H1 e f=>q H1 (e.f0 R) f};obtain⟨p,e',x⟩:=au.mp (ae.mp q);have s:=R.ext h e;have g:=e a _ m j;have q:AW (Av c Y Z) 'w' H1 H1:={λ_ _ z _=>z,λb o a z=>⟨a.1,z⟩};refine y l d p a n v H1 _ e' g (aa.mono q (z.mono (e.keepT h λb a=>⟨a.1,a⟩))) u λh b=>?_
    obtain⟨l,z'⟩:=b (cG (by assumption)).2;obtain⟨R2,b⟩:=s.wr (d':=.lst p) (o:=.lst h) (bK (by assumption)) r {(λu z=>by cases z),(λm u z=>by cases z)} λk=>{h,aw,aa.mono k (aa.ofImm l z')}
    exact x Y _ (e.frm.trans b) (bv f j g) R2
def HU(l:List D)(d:D):Option (List D):=if d.imm=true/\l.length<sizeLine then some (l++[d]) else none
def HV(l:List D)(d:D):Option (List D):=match d with
 | .lst m=>if D.immL m=true/\l.length+m.length<=sizeLine then some (l++m) else none
 | _=>none
open H in
def qg:MtD c Jh HU:=by
 intro l d b a f v H Q e g z b q;unfold HU at e;split at e
 ·rename_i h
  cases e;refine{a,f,v,rfl,rfl,g,by rw[<-z.length];exact h.2,q _ λm=>{cg m (by simp[D.immL,h.1]),z.append (aa.one b)}}
 ·cases e
open H in
def ww:MtD c Ji HV:=by
 intro l d b a m v H Q e j z p q;unfold HV at e;split at e
 ·rename_i n
  split at e
  ·rename_i h
   cases e;obtain⟨b,n,l,nb,g,f⟩:=Is.lst_iff.mp p;subst l;refine{a,b,m,n,rfl,rfl,j,g,by rw[<-z.length,<-f.length];exact h.2,q _ λm=>{cg m h.1,z.append f}}
  ·cases e
 ·cases e
end
def G9(N:List Str)(osc:Scope)(N':List Str)(ixs:List (Option Nat))(scope:Scope):Bool:=
 decide (scope.kind=.function)&&scope.names.all (λy=>decide (y.2≠.cell))&&scope.names.all (λy=>decide (y.2=.local->scope.names.lookup y.1=some .local))&&decide (ixs.length=N'.length) &&
 scope.names.all (λy=>decide (y.2=.free->osc.names.lookup y.1=some .cell\/osc.names.lookup y.1=some .free)) &&
 (List.range N'.length).all (λj=>match N'[j]?,ixs[j]? with
  | some y,some (some i)=>decide (N[i]?=some y)&&decide (scope.names.lookup y=some .free)
  | _,_=>true)
def G9.scope{X:Cx}{N:List Str}{osc:Scope}{a:List Str}{ixs:List (Option Nat)}{scope:Scope}(h:G9 N osc a ixs scope=true)(n:autoParam (X.N=N) uR)(m:autoParam (X.env.scope=osc) uR):EJ X a ixs scope:=by
 unfold G9 at h;simp only[Bool.and_eq_true,decide_eq_true_eq,FI] at h;obtain⟨⟨⟨⟨⟨d,b⟩,i⟩,c⟩,e⟩,l⟩:=h;refine{d,b,i,c,λy g f=>by rw[m];exact e y g f,λj i y b c=>?_};have d:j<a.length:=(Bd.mp b).1;have q:=l j (List.mem_range.mpr d);rw[b,c] at q;simp only[Bool.and_eq_true,decide_eq_true_eq] at q;exact{by rw[n];exact q.1,q.2}
end L2
namespace PySem
open H in
def qh(l:Addr)(a:Array Value)(n:Nat)(b:Option Addr)(c:Array (Option Value)) :
 Meets (Builtin.«enumerate.__new__» {[.type "enumerate",.ref l],[]}) (λ_ R s=>s.heap.get? l=some { cls:=.type "tuple",dict:=b,data:=.seq a n,slots:=c }/\
  R (.ok (.ret (.ref (s.heap.push { cls:=.type "tuple_iterator",data:=.fields #[.ref l,.int 0 0] }).objs.size)))
    { s with heap:=(s.heap.push { cls:=.type "tuple_iterator",data:=.fields #[.ref l,.int 0 0] }).push { cls:=.type "enumerate",data:=.fields #[.none,.bool false,.ref s.heap.objs.size,rawInt 0,.none,.none] } }):=
 .of_wp λprog w A R s h=>by
  obtain⟨f,g,d,i,j⟩:=s;obtain⟨b,h⟩:=h;have c:=sub_enumerate;have e:Heap.IsTuple (Shared.heap ⟨f,g,d,i,j⟩) l a:={_,b,rfl,n,rfl}
  wp_walk using wpAny_loadPart' b
  refine wpAny_stack_any λa=>Aj ?_
  split
  ·rename_i c _ _ _ _ _
   cases (c == Value.type "enumerate")<;>(wp_walk using wpAny_loadPart' b,wpAny_pyIter_tuple e;exact{_,rfl,h})
  ·(wp_walk using wpAny_loadPart' b,wpAny_pyIter_tuple e;exact{_,rfl,h})
def qi(i:s.heap.IsTuple l items)(h:∀a,IsEnum a (s.heap.objs.size+1) s.heap.objs.size 0 .none->a.IsTupleIter s.heap.objs.size l 0->(∀b o,s.heap.get? b=some o->a.get? b=some o)->Q (.ref (s.heap.objs.size+1)) { s with heap:=a }) :
 wpAny 'r' A (call (.type "enumerate") [.ref l]) Q E s:=by
 obtain⟨⟨c,a,j,g⟩,f,e,n,d⟩:=i;have e:c=.type "tuple":=e;have d:j=.seq items n:=d;subst e d;refine callType_new F.called_enumerate 'z' (F.typeCall_enumerate_1 _) (F.newCall_enumerate_1 _) (λc=>F.args_object_init_2 c _) F.entry_enumerate_new (qh l items n a g) {f,?_};generalize c:s.heap.push { cls:=.type "tuple_iterator",data:=.fields #[.ref l,.int 0 0] }=g;have d:g.objs.size=s.heap.objs.size+1:=by rw[<-c];exact DV ..
 have a:IsEnum (g.push { cls:=.type "enumerate",data:=.fields #[.none,.bool false,.ref s.heap.objs.size,rawInt 0,.none,.none] }) (s.heap.objs.size+1) s.heap.objs.size 0 .none:=by
  have:=AZ g (o:={ cls:=.type "enumerate",data:=.fields #[.none,.bool false,.ref s.heap.objs.size,rawInt 0,.none,.none] }) rfl;rw[d] at this;exact this
 have e:g.get? s.heap.objs.size=some { cls:=.type "tuple_iterator",data:=.fields #[.ref l,.int 0 0] }:=by rw[<-c];exact AZ _ rfl
 show _/\_;rw[d];exact{{_,a,rfl},h _ a {_,AH _ e,rfl,rfl} λb o x=>AH _ (by rw[<-c];exact AH _ x)}
open H in
def jS{i:Nat}(a:s.heap.IsTupleIter it l i)(f:s.heap.IsTuple l items)(h:items[i]?=some x)(g:∀b,b.IsTupleIter it l (i+1)->Heap.SameBut it s.heap b->Q x { s with heap:=b }):wpAny 'r' A (Builtin.SmallTypes.nextOf (.ref it)) Q E s:=by
 obtain⟨o,c,j,b⟩:=id a;obtain⟨n,d,_,nl,e⟩:=f;unfold Builtin.SmallTypes.nextOf;refine Ac (wpAny_callSpecial?_slot (name:=Str.ofString "__next__") a.typeIs F.slot_tuple_iterator_next (C3 F.slot_tuple_iterator_next a.typeIs F.entry_tuple_iterator_next ?_ (F.args_tuple_iterator_next_1 _)));show wpAny _ _ (field (.ref it) 0 >>= λ_=>_) _ _ s;refine Ac (B0 c b (x:=.ref l) rfl ?_);show wpAny _ _ (if (Value.ref l == Value.none)=true then _ else _) _ _ s;have a:¬(Value.ref l == Value.none)=true:=BQ;rw[if_neg a];refine Ac (m:=field (.ref it) 1) (B0 c b (x:=.int i 0) rfl ?_);refine Ac (m:=seqItems? (.ref l)) (Ef d e ?_);simp only[CH,h];refine Ac (wpAny_setField c b 'd' (Aj {x,rfl,Aj (g _ ?_ (Heap.SameBut.update ..))}));refine{_,GV _ c (Obj.isFreed_of_fields (Obj.data_mapFields b _)),(Obj.cls_mapFields ..).trans j,?_};rw[Obj.data_mapFields b];simp[rawInt]
open H in
def jT{i:Nat}(g:A.handled=none)(b:s.heap.IsTupleIter it l i)(j:s.heap.IsTuple l items)(n:items[i]?=none)(h:∀c e,Heap.ExtBut it s.heap c->(∃o,c.get? e=some o/\o.cls=.type "StopIteration")->E (.ref e) { s with heap:=c }):wpAny 'r' A (Builtin.SmallTypes.nextOf (.ref it)) Q E s:=by
 obtain⟨o,e,f,c⟩:=id b;obtain⟨o,d,_,nl,f⟩:=j;unfold Builtin.SmallTypes.nextOf;refine Ac (wpAny_callSpecial?_slot (name:=Str.ofString "__next__") b.typeIs F.slot_tuple_iterator_next (C3 F.slot_tuple_iterator_next b.typeIs F.entry_tuple_iterator_next ?_ (F.args_tuple_iterator_next_1 _)));show wpAny _ _ (field (.ref it) 0 >>= λ_=>_) _ _ s;refine Ac (B0 e c (x:=.ref l) rfl ?_);show wpAny _ _ (if (Value.ref l == Value.none)=true then _ else _) _ _ s;have b:¬(Value.ref l == Value.none)=true:=BQ;rw[if_neg b];refine Ac (m:=field (.ref it) 1) (B0 e c (x:=.int i 0) rfl ?_);refine Ac (m:=seqItems? (.ref l)) (Ef d f ?_);simp only[CH,n];refine Ac (bc (Ac (wpAny_setField e c 'd' ?_)));refine Ac (m:=newExc (.type "StopIteration") []) ?_;simp only[newExc,newTuple];refine Ac (wpAny_newObj_type ?_ (by size_fits));refine Ac (m:=firstArgMember _ _) (wpAny_of_eq (a:=Value.none) (by first | rfl | (simp only[firstArgMember];rfl)) ?_);refine wpAny_newObj_type ?_ (by size_fits);simp only[raiseNew];refine Ac (wpAny_handled ?_);first | rw[show A.in1.handled=none from g] | rw[g]
 exact Ac (Aj (wpAny_throw (h _ _ (((Heap.SameBut.update ..).extBut.push _).push _) {_,AZ _ rfl,rfl})))
def qj{e n:Addr}{i:Nat}{x u:Value}{T:Heap->Prop}{Q:Value->Shared->Prop}(C:IsEnum s.heap e n i u)(z:e≠n)(J:∀h a,T h->(∀o,h.get? n=some o->a.get? n=some o)->T a)(f:∀b:Value->Shared->Prop,(∀a,T a->Heap.SameBut n s.heap a->b x { s with heap:=a })->wpAny 'r' A (Builtin.SmallTypes.nextOf (.ref n)) b E s)(I:∀a,IsEnumOut a e n ((i:Int)+1) x s.heap.objs.size->T a->a.get? s.heap.objs.size=some { cls:=.type "tuple",data:=.seq #[.int i s.toks,x] }->a.objs.size=s.heap.objs.size+1->
  (∀b o,b≠e->b≠n->s.heap.get? b=some o->a.get? b=some o)->Q (.ref s.heap.objs.size) { s with heap:=a,toks:=s.toks+1 }) :
 wpAny 'r' A (Builtin.«enumerate.__next__» {[.ref e],[]}) (λfin s'=>∃v,fin=.done (.ret v)/\Q v s') E s:=by
 obtain⟨y,g,d,A,G⟩:=s;refine Ac (m:=field (.ref e) 2) (B0 C rfl (x:=.ref n) rfl ?_);refine Ac (f _ λc E a=>?_);have a:Heap.SameBut n y c:=a;have f:IsEnum c e n i u:=(a.2 e z).trans C;show wpAny _ _ (field (.ref e) 3 >>= λ_=>_) _ _ ⟨c,g,d,A,G⟩;refine Ac (B0 f rfl (x:=rawInt i) rfl ?_);refine Ac (m:=field (.ref e) 4) (B0 f rfl (x:=.none) rfl ?_);refine Ac (m:=mkInt i) (wpAny_mkInt ?_);refine Ac (m:=setField (.ref e) 3 (rawInt ((i:Int)+1))) (Ed f 'd' λq j h=>?_);have h:Heap.SameBut e c q:=h;have j:IsEnum q e n ((i:Int)+1) u:=j;refine Ac (m:=setField (.ref e) 4 .none) (Ed j 'd' λl p f=>?_);have f:Heap.SameBut e q l:=f;have p:IsEnum l e n ((i:Int)+1) u:=p;refine Ac (m:=newTuple [.int i A,x]) (wpAny_newTuple ?_);have j:IsEnum (l.push { cls:=.type "tuple",data:=.seq #[.int i A,x] }) e n ((i:Int)+1) u:=AH _ p;generalize r:l.push { cls:=.type "tuple",data:=.seq #[.int i A,x] }=h₄ at j;have p:l.objs.size=y.objs.size:=by rw[f.1,h.1,a.1]
 have F:y.objs.size≠e:=Nat.ne_of_gt (Heap.lt_size C);have B:h₄.get? y.objs.size=some { cls:=.type "tuple",data:=.seq #[.int i A,x] }:=by rw[<-r,<-p];exact AZ _ rfl
 have C:h₄.objs.size=y.objs.size+1:=by rw[<-r,DV,p]
 have s:∀b o,b≠e->c.get? b=some o->h₄.get? b=some o:=λb o v q=>by
  rw[<-r];exact AH _ (f.extBut b o v (h.extBut b o v q))
 show wpAny _ _ (Builtin.SmallTypes.ownedTupleIsFree (.ref e) >>= λ_=>_) _ _ {h₄,g,d,A+1,G};rw[p];refine Ac ?_;unfold Builtin.SmallTypes.ownedTupleIsFree;refine Ac (B0 j rfl (x:=.none) rfl (Aj ?_));simp only[if_true];refine Ac (bc (Ac (B0 j rfl (x:=u) rfl ?_)));refine Ac (Ed j 'd' λp h f=>?_);have f:Heap.SameBut e h₄ p:=f;have h:IsEnum p e n ((i:Int)+1) x:=h;show wpAny _ _ (Builtin.SmallTypes.ownedTupleHandOut (.ref e) (.ref y.objs.size) >>= λ_=>_) _ _ {p,g,d,A+1,G};refine Ac ?_;unfold Builtin.SmallTypes.ownedTupleHandOut;refine Ac (Ed h 'd' λr l g=>?_);have g:Heap.SameBut e p r:=g;have l:IsEnumOut r e n ((i:Int)+1) x y.objs.size:=l;refine Ed l 'd' λh j d=>?_
 have d:Heap.SameBut e r h:=d;have j:IsEnumOut h e n ((i:Int)+1) x y.objs.size:=j;have i:∀b o,b≠e->h₄.get? b=some o->h.get? b=some o:=λb o v q=>d.extBut b o v (g.extBut b o v (f.extBut b o v q))
 refine Ac (wpAny_letGo (Aj {_,rfl,I h j (J c h E λo q=>i _ o (Ne.symm z) (s _ o (Ne.symm z) q)) (i _ _ F B) (by rw[d.1,g.1,f.1,C]) λb o v c q=>i b o v (s b o v (a.extBut b o c q))}))
end PySem
namespace L2
def Ad.turnedT{h:List Addr}{p:Addr}{vs:List V}{f:List Value}{t':Nat}(I:Ad X A0 Y H s)(d:∀b∈h,CS X A0 H b)(k:∀b o,b∉h->s.heap.get? b=some o->h'.get? b=some o)(j:s.heap.objs.size<=p)(v:Ao vs f)(q:vs.length<=sizeLine)(l:IsTup h' p f.toArray)(i:NoD h' p):Ad X A0 Y (Af H p (.tup vs)) { s with heap:=h',toks:=t' }:=by
 have c:H p=none:=I.hok.fresh j;have g:∀b u,H b=some u->b∉h:=λb u e z=>by rw[(d b z).1] at e;cases e
 have a:∀b u,H b=some u->Af H p (.tup vs) b=some u:=λb u e=>by rw[aj (aF e c)];exact e
 refine I.step (g':=s.gens) (d':=s.drawn) (t':=t') (ch:=h) (λb c=>{(d b c).2.2.2.1,(d b c).2.1,(d b c).2.2.2.2.1,(d b c).2.2.2.2.2}) (λb o _ _ h e _=>k b o h e) (λb o _ _ h e _=>{o.slots,k b o h e})
  (λb o _ e n=>by rw[aj (Bf (A3 (Heap.lt_size e) j))];exact n) (λb o h e=>{o,k b o h e}) (λb j e=>a b _ e) (λb o u e=>a b _ e) (λb h e=>{#[],by rw[a b _ e];simp}) (λm n=>?_) (λb u e=>?_) I.bare
 ·obtain⟨o,es,m,h,r⟩:=n
  exact{o,es,m,k _ o (λz=>(d _ z).2.1 rfl) h,r}
 ·by_cases c:b=p
  ·subst c
   rw[aw] at e;cases e;exact⟨q,f,v,l,i⟩
  ·rw[aj c] at e
   refine(I.hok b u e).stay (λd v i q=>k d v ?_ q) (λd q=>a d _ q) λd j q=>a d _ q
   rcases i with z | z
   ·rw[z];exact g b u e
   ·exact g d _ z
def Ad.turnedF{d:List Addr}{t':Nat}(I:Ad X A0 Y H s)(a:∀b∈d,CS X A0 H b)(k:∀b o,b∉d->s.heap.get? b=some o->h'.get? b=some o):Ad X A0 Y H { s with heap:=h',toks:=t' }:=by
 have c:∀b u,H b=some u->b∉d:=λb u e z=>by rw[(a b z).1] at e;cases e
 refine I.step (g':=s.gens) (d':=s.drawn) (t':=t') (ch:=d) (λb f=>{(a b f).2.2.2.1,(a b f).2.1,(a b f).2.2.2.2.1,(a b f).2.2.2.2.2}) (λb o _ _ d e _=>k b o d e) (λb o _ _ d e _=>{o.slots,k b o d e})
  (λb o _ e n=>n) (λb o d e=>{o,k b o d e}) (λb f e=>e) (λb o u e=>e) (λb d e=>{#[],by rw[e];simp}) (λm g=>?_) (λb u e=>?_) I.bare
 ·obtain⟨o,es,h,d,r⟩:=g
  exact{o,es,h,k _ o (λz=>(a _ z).2.1 rfl) d,r}
 ·refine(I.hok b u e).stay (λd v a q=>k d v ?_ q) (λd q=>q) λd f q=>q
  rcases a with z | z
  ·rw[z];exact c b u e
  ·exact c d _ z
def Gk(b:Nat)(Sq:Hp->List V->Prop):It:=
 {λi H=>∃xs x,Sq H xs/\xs[i]?=some x,λi H v H'=>∃p x,H p=none/\v=.ref p/\H'=Af H p (.tup [.int (i+b:Nat),x])/\∀xs,Sq H xs->xs[i]?=some x,λi H=>∃xs,Sq H xs/\xs.length<=i}
abbrev Ien(Sq:Hp->List V->Prop):It:=Gk 0 Sq
structure HW(P:Program)(w:World)(K:FG)(Sq:Hp->List V->Prop)(T:Nat->Heap->Prop)(it:Addr):Prop where
 obj:∀{i h},T i h->∃o,h.get? it=some o/\∀v,o.data=.cell v->False
 keep:∀{i h h'},T i h->(∀o,h.get? it=some o->h'.get? it=some o)->T i h'
 inj:∀{X A0 Y H s xs ys},X.K=K->Ad X A0 Y H s->Sq H xs->Sq H ys->xs=ys
 item:∀{X A0 Y H s i xs x},X.K=K->Ad X A0 Y H s->Sq H xs->xs[i]?=some x->T i s.heap->∃u,An x u/\∀(A:Around) (E Q:Value->Shared->Prop),(∀h',T (i+1) h'->Heap.SameBut it s.heap h'->Q u { s with heap:=h' })->wpAny (model P w) A (Builtin.SmallTypes.nextOf (.ref it)) Q E s
 done:∀{X A0 Y H s i xs},X.K=K->Ad X A0 Y H s->Sq H xs->xs.length<=i->T i s.heap->∀(A:Around) (E Q:Value->Shared->Prop),A.handled=none->(∀h' e,Heap.ExtBut it s.heap h'->(∃o,h'.get? e=some o/\o.cls=.type "StopIteration")->E (.ref e) { s with heap:=h' })->wpAny (model P w) A (Builtin.SmallTypes.nextOf (.ref it)) Q E s
open H in
def jU{P:Program}{w:World}{K:FG}{a:List Expr}{x1}{pos:Pos}{b:Nat}{c:Hp->List V->Prop}{T:Nat->Heap->Prop}{e l:Addr}(N:HW P w K c T l):Ev P w K (.Tuple a x1 pos) (Gk b c) [e,l] e (λi h=>e≠l/\(∃d,IsEnum h e l (i+b:Nat) d)/\T i h) where
 mem:=by simp
 obj:=λi h j c f=>by
  obtain⟨a,⟨d,g⟩,n⟩:=j;rcases AL.mp f with z | f
  ·subst z
   exact{_,g,λv z=>by
    have z':Data.fields _=Data.cell v:=z;cases z'}
  ·rw[A8.mp f]
   exact(N.obj n).imp λo z=>⟨z.1,z.2⟩
 keep:=λi h r j k=>by
  obtain⟨a,⟨d,g⟩,n⟩:=j;exact{a,{d,k e 'd' _ g},N.keep n λo q=>k l 'd' o q}
 item:=by
  intro X U P C Z i A0 s Y H E I G j L;subst U P;obtain⟨xs,x,B,J⟩:=L;obtain⟨a,⟨d,g⟩,n⟩:=j;obtain⟨u,ru,y⟩:=N.item C I B J n;have v:s.TypeIs (.ref e) "enumerate":={_,g,rfl};unfold pyNext;refine Ac (wpAny_attempt (wpAny_callSpecial?_slot (name:=Str.ofString "__next__") v F.slot_enumerate_next (C3 F.slot_enumerate_next v F.entry_enumerate_next (qj (T:=T (i+1)) g a (λh r t q=>N.keep t q) (λA c=>y _ _ _ c) λr Q O A y kk=>Aj ?_) (F.args_enumerate_next_1 _))));refine{_,rfl,wpAny_letOwnedTupleGo_enum (s:={ s with heap:=r,toks:=s.toks+1 }) Q λy R c=>?_};have c:Heap.SameBut e r y:=c;have M:s.heap.objs.size≠e:=Nat.ne_of_gt (Heap.lt_size g);have k2:∀b o,b∉[e,l]->s.heap.get? b=some o->y.get? b=some o:=λb o f q=>by
   have W:b≠e:=λz=>f (by simp[z])
   have h3:b≠l:=λz=>f (by simp[z])
   exact c.extBut b o W (kk b o W h3 q)
  have tt:IsTup y s.heap.objs.size [Value.int (i+b:Nat) s.toks,u].toArray/\NoD y s.heap.objs.size:={{_,c.extBut _ _ M A,rfl,_,rfl},{_,c.extBut _ _ M A,rfl}};have W:∀b∈[e,l],b≠s.heap.objs.size:=λb f z=>by
   obtain⟨o1,A,_⟩:=N.obj n;rcases AL.mp f with y | y
   ·exact M (by rw[<-z,y])
   ·rw[z] at y
    rw[<-A8.mp y] at A;exact absurd (Heap.lt_size A) (CJ _)
  refine{.ref s.heap.objs.size,_,I.turnedT (p:=s.heap.objs.size) (vs:=[.int (i+b:Nat),x]) G k2 (Al _) (.cons {_,rfl} (.cons ru .nil)) (by show 2<=sizeLine;decide) tt.1 tt.2,rfl,{_,x,I.hok.fresh (Al _),rfl,rfl,λA y=>by rw[N.inj C I y B];exact J},{a,{u,?_},?_},λb f=>?_}
  ·have:((i+1+b:Nat):Int)=((i+b:Nat):Int)+1:=by omega
   rw[this];exact R
  ·exact N.keep O λo q=>c.extBut _ _ (Ne.symm a) q
  ·rw[aj (W b f)];exact(G b f).1
 done:=by
  intro X U P C Z i A0 s Y H E I G j L;subst U P;obtain⟨xs,B,J⟩:=L;obtain⟨a,⟨d,g⟩,n⟩:=j;have v:s.TypeIs (.ref e) "enumerate":={_,g,rfl};unfold pyNext;refine Ac (wpAny_attempt (wpAny_callSpecial?_slot (name:=Str.ofString "__next__") v F.slot_enumerate_next (C3 F.slot_enumerate_next v F.entry_enumerate_next ?_ (F.args_enumerate_next_1 _))));refine Ac (m:=field (.ref e) 2) (B0 g rfl (x:=.ref l) rfl ?_);refine Ac (N.done C I B J n _ _ _ (I.ok.hd Z) λr x d c=>?_);obtain⟨o,Q,a⟩:=c;refine Ac (wpAny_isInstance (T:="StopIteration") (b:=true) ⟨o,Q,a⟩ isSubtype_stop (Aj {rfl,I.turnedF G λb o f q=>d b o (λz=>f (by simp[z])) q}))
 self:=λ_ _ _ _ _ j h=>let ⟨_,⟨_,g⟩,_⟩:=j;wpAny_pyIter_enum g h
def qk{P:Program}{w:World}{K:FG}(a b:Addr):HW P w K (λH j=>AN K H a j) (λi h=>h.IsTupleIter b a i) b where
 obj:=λ⟨o,a,_,d⟩=>{o,a,λv z=>by rw[d] at z;cases z}
 keep:=λt q=>t.at q
 inj:=λa I c b=>I.tuple_inj (a▸c) (a▸b)
 item:=λa I d f b=>by
  obtain⟨e,c,p,_⟩:=I.tuple (a▸d);obtain⟨u,g,l⟩:=c.get f;exact{u,l,λA E Q i=>jS b p (by simpa using g) i}
 done:=λa I d f b A E Q g h=>by
  obtain⟨e,c,p,_⟩:=I.tuple (a▸d);have e:=c.length;exact jT g b p (by simp;omega) h
open H in
def qm{P:Program}{w:World}{K:FG}{b:List Expr}{x1}{pos:Pos}(a e c:Addr):Ev P w K (.Tuple b x1 pos) (Ien λH d=>AN K H a d) [e,c] e (λi h=>e≠c/\(∃b,IsEnum h e c i b)/\h.IsTupleIter c a i):=jU (qk a c)
section
variable{x1:Nat}
def Kr(K:FG)(ta:TA):TI:=λY H R=>ta Y H λvs H1=>∃a xs,vs=[.ref a]/\AN K H1 a xs/\R (Ien λH xs=>AN K H a xs) H1
def jV(b:Gl X "enumerate")(d:X.mg "enumerate" = none)(e:PA X [a] ta)(c:autoParam (starEach [a] X.env=[(false,eval a X.env)]) uR):PI X (.Tuple elts x1 tpos) (.Call (.Name "enumerate" p) [a] [] pos) (Kr X.K ta):=by
 intro a s Y H R I h;refine Call_ (cY I b d boot_enumerate (PyProof.Rows.callWith_type1 (ag (e pos a s Y H _ I h) λb a hI111=>?_) c rfl));obtain⟨b,H1,I1,r1,q1⟩:=hI111;obtain⟨l,b,rfl,d,q⟩:=q1;cases r1 with
 | cons r e=>
   cases e;cases r;obtain⟨b,f,c,g⟩:=I1.tuple d;refine qi (show a.heap.IsTuple l b.toArray from c) λe d f b=>?_
   refine wpAny_pyIter_enum (s:={ a with heap:=e }) d ?_;refine{a.heap.objs.size+1,[a.heap.objs.size+1,a.heap.objs.size],_,_,H1,rfl,I1.kept (t':=a.toks) b,qm l _ _,{Nat.succ_ne_self _,{_,d},f},λb c=>?_,q};have c:a.heap.objs.size<=b:=by
    rcases AL.mp c with z | z
    ·rw[z];exact Nat.le_succ _
    ·have z:b=a.heap.objs.size:=by simpa using z
     exact BX z.symm
   exact I1.fpOk c (I1.hok.fresh c)
variable{S:Type}
def D5(b:Nat)(l:List D):List D:=(l.zipIdx b).map λp=>.tup [.int p.2,p.1]
def gr{b:Nat}{l:List D}{i:Nat}{d:D}(h:(D5 b l)[i]?=some d):∃x,l[i]?=some x/\d=.tup [.int (i+b:Nat),x]:=by
 unfold D5 at h;rw[AX,List.getElem?_zipIdx] at h;cases q:l[i]? with
 | none=>rw[q] at h;cases h
 | some x=>rw[q] at h;cases h;exact{x,rfl,by rw[CK]}
def gt(b:Nat)(l:List D):(D5 b l).length=l.length:=by unfold D5;rw[Ai,List.length_zipIdx]
abbrev FS(l:List D):List D:=D5 0 l
def Ha:List D->Option (List D)
 | [.tup l]=>if D.immL l=true then some (FS l) else none
 | _=>none
def jW{i:Nat}(h:(FS l)[i]?=some d):∃x,l[i]?=some x/\d=.tup [.int i,x]:=gr h
def jX(l:List D):(FS l).length=l.length:=gt 0 l
theorem gu:∀{l:List D} {i:Nat} {d:D},D.immL l=true->l[i]?=some d->d.imm=true
 | [],_,_,_,h=>by simp at h
 | x::l,0,d,m,h=>by
   have a:x.imm=true/\D.immL l=true:=by simpa [D.immL] using m
   simp at h;subst h;exact a.1
 | x::l,i+1,d,m,h=>by
   have a:x.imm=true/\D.immL l=true:=by simpa [D.immL] using m
   exact gu (i:=i) a.2 (by simpa using h)
def eN{b:Nat}{Y:St}{Z:Ag}{H1:Hp}{l:List D}{e:List V}{d:Hp->List V->Prop}(s0:∀(f:Addr->Prop) (a:Hp),AW (Av c Y Z) f H1 a->d a e)(n:aa c.K (Av c Y Z) H1 l e):G8 c Y Z H1 (Gk b d) (D5 b l):=by
 intro h a g i H2 f k R2 m j;have a:d H2 e:=s0 _ _ k;have f:aa c.K (Av h g i) H2 l e:=n.mono k;refine{λd h=>?_,λc=>{e,a,by rw[gt] at c;rw[<-f.length];exact c}};obtain⟨y,d,rfl⟩:=gr h;obtain⟨g,c,i⟩:=f.get d;refine{⟨e,g,a,c⟩,?_};rintro x H3 ⟨h,l,f,rfl,rfl,d⟩;have:=d e a;rw[c] at this;cases this;have d:Ch H2 (Af H2 h (.tup [.int (j+b:Nat),g])):=λb o c=>by rw[aj (aF c f)];exact c
 refine{d,Is.tup aw (aa.cons.mpr {_,_,rfl,Is.int_iff.mpr rfl,aa.one ?_})};exact i.mono (bG (λb o c _=>d b o c) λb o a c=>{a,d b o c})
open H in
def wx(h:c.K=X.K)(d:Gl X "enumerate")(g:X.mg "enumerate" = none)(b:DA X c [a] f)(e:autoParam (starEach [a] X.env=[(false,eval a X.env)]) uR):DI X c (.Tuple elts x1 tpos) (.Call (.Name "enumerate" p) [a] [] pos) (Fu S Ha f):=
 (jV d g b e).imp λY H R hI31=>by
  obtain⟨Z,e,d,b,w⟩:=hI31;refine{Z,e,d,b,ak (ae.mp w) (λl d q b H1 e f z=>?_) λx d q=>q};obtain⟨m,b,q⟩:=au.mp q;unfold Ha at b;split at b
  ·rename_i l
   split at b
   ·rename_i im
    cases b;obtain⟨v,r,g,j,m⟩:=aa.cons.mp z;obtain⟨a,d,l,s0,i⟩:=Is.tup_iff.mp j;have s:AN c.K H1 a d:=.of s0;rw[aa.nil.mp m,l] at g;exact{a,d,g,h▸s,q _ H1 e f (eN (λg c k=>by rw[<-h];exact .of (k.tup a d s0)) (aa.ofImm im i))}
   ·cases b
  ·cases b
end
def dW{a:List Bool}:(List.range a.length).all (λi=>a.getD i false)=a.all id:=by
 apply Fo.mpr;simp only[FI,List.mem_range,id];constructor
 ·intro h b c
  obtain⟨i,a,e⟩:=List.mem_iff_getElem.mp c;have:=h i a;rw[F4,Ba a] at this;rw[<-e];exact this
 ·intro h i a
  rw[F4,Ba a];exact h _ (List.getElem_mem a)
def qn{a:List Bool}:(List.range a.length).any (λi=>a.getD i false)=a.any id:=by
 apply Fo.mpr;simp only[List.any_eq_true,List.mem_range,id];constructor
 ·rintro ⟨i,a,h⟩
  rw[F4,Ba a] at h;exact{_,List.getElem_mem a,h}
 ·rintro ⟨b,c,h⟩
  obtain⟨i,a,e⟩:=List.mem_iff_getElem.mp c;refine{i,a,?_};rw[F4,Ba a,e];exact h
def jY{b:List Bool}{a:List Value}(r:Ao (b.map V.bl) a){i:Nat}{v:Value}(h:a.toArray[i]?=some v):v=.bool (b.getD i false):=by
 have c:i<a.length:=by
  have:=(Array.getElem?_eq_some_iff.mp h).1;simpa using this
 have d:=r.length;rw[Ai] at d;have c:i<b.length:=by omega
 obtain⟨u,d,e⟩:=r.get (i:=i) (x:=.bl b[i]) (by rw[AX,Ba c];rfl);have:a[i]?=some v:=by simpa using h
 rw[d] at this;cases this;rw[F4,Ba c];exact e
def wy(e:X.calm=true):CA X (.builtin "all") (λg H Q=>∃(a:Addr) (b:List Bool),g=[.ref a]/\AT X.K H a (b.map V.bl)/\Q (.bl (b.all id)) H):=by
 intro c s Y H g d Q I r h;obtain⟨a,b,rfl,d,q⟩:=h;obtain⟨u,rfl,r1⟩:=bE r;cases r1;obtain⟨c,f,p,i⟩:=I.list d;have h:X.A.in1.handled=none:=I.ok.hd e;have d:a<s.heap.objs.size:=by obtain⟨o,e,_⟩:=p.isList;exact Heap.lt_size e
 refine call_all_walk (wpAny_pyIter_list p.isList {_,_,_,_,_,_,λi=>b.getD i false,rfl,Walks.list h s.heap.objs.size a (Bf d) c.toArray,{{_,AZ _ rfl,rfl,rfl},p.isList.push _},?_,?_})
 ·intro i v l j s' h a
  rw[jY f h];exact Ee a
 ·intro l j h
  have e:(List.range c.toArray.size).all (λi=>b.getD i false)=b.all id:=by
   have a:=f.length;rw[Ai] at a;rw[AQ,<-a,dW]
  rw[e];refine{.bl _,H,?_,rfl,q};refine I.kept (t':=j) λb o e=>h b o (λz=>?_) (AH _ e)
  have z:b=s.heap.objs.size:=by simpa using z
  have d:=Heap.lt_size e;rw[z] at d;exact CJ _ d
def qo(e:X.calm=true):CA X (.builtin "any") (λg H Q=>∃(a:Addr) (b:List Bool),g=[.ref a]/\AT X.K H a (b.map V.bl)/\Q (.bl (b.any id)) H):=by
 intro c s Y H g d Q I r h;obtain⟨a,b,rfl,d,q⟩:=h;obtain⟨u,rfl,r1⟩:=bE r;cases r1;obtain⟨c,f,p,i⟩:=I.list d;have h:X.A.in1.handled=none:=I.ok.hd e;have d:a<s.heap.objs.size:=by obtain⟨o,e,_⟩:=p.isList;exact Heap.lt_size e
 refine call_any_walk (wpAny_pyIter_list p.isList {_,_,_,_,_,_,λi=>b.getD i false,rfl,Walks.list h s.heap.objs.size a (Bf d) c.toArray,{{_,AZ _ rfl,rfl,rfl},p.isList.push _},?_,?_})
 ·intro i v l j s' h a
  rw[jY f h];exact Ee a
 ·intro l j h
  have e:(List.range c.toArray.size).any (λi=>b.getD i false)=b.any id:=by
   have a:=f.length;rw[Ai] at a;rw[AQ,<-a,qn]
  rw[e];refine{.bl _,H,?_,rfl,q};refine I.kept (t':=j) λb o e=>h b o (λz=>?_) (AH _ e)
  have z:b=s.heap.objs.size:=by simpa using z
  have d:=Heap.lt_size e;rw[z] at d;exact CJ _ d
open PySem.SeqAt
mutual
noncomputable def D.eqq:D->D->Option Bool
 | .int i,.int j=>some (i == j)
 | .str i,.str j=>some (i == j)
 | .bl i,.bl j=>some (i == j)
 | .non,.non=>some true
 | .tup l,.tup m=>D.eqL l m
 | .lst l,.lst m=>if l.length=m.length then D.eqL l m else some false
 | .lst l,.fl m=>if l.length=m.length then D.eqL l m else some false
 | .fl l,.lst m=>if l.length=m.length then D.eqL l m else some false
 | .fl l,.fl m=>if l.length=m.length then D.eqL l m else some false
 | _,_=>none
noncomputable def D.eqL:List D->List D->Option Bool
 | [],[]=>some true
 | [],_::_=>some false
 | _::_,[]=>some false
 | a::l,b::m=>(D.eqq a b).bind λx=>(D.eqL l m).map λy=>x&&y
end
mutual
noncomputable def D.dep:D->Nat
 | .tup l=>D.depL l+1
 | .lst l=>D.depL l+1
 | .fl l=>D.depL l+1
 | _=>0
noncomputable def D.depL:List D->Nat
 | []=>0
 | d::l=>max (D.dep d) (D.depL l)
end
section
variable{X:Cx}{A0:List 'p'}{Y:St}{H:Hp}{s:Shared}{A1 A2:Addr->Prop}
def aJ{b:Bool}{P:Prop}(e:(none:Option Bool)=some b):P:=nomatch e
def gv{α:Type}[BEq α][ReflBEq α]{i:α}{b:Bool}(e:some (i == i)=some b):b=true:=(Option.some.inj e).symm.trans (ce i)
mutual
theorem gw(I:Ad X A0 Y H s):∀{a d:D} {v:V} {b:Bool},Is X.K A1 H a v->Is X.K A2 H d v->D.eqq a d=some b->b=true
 | .int i,d,v,b,g,f,e=>by
   rw[Is.int_iff.mp g] at f;cases d with
   | int j=>have:=Is.int_iff.mp f;cases this;exact gv e
   | _=>exact aJ e
 | .str i,d,v,b,g,f,e=>by
   rw[Is.str_iff.mp g] at f;cases d with
   | str j=>have:=Is.str_iff.mp f;cases this;exact gv e
   | _=>exact aJ e
 | .bl i,d,v,b,g,f,e=>by
   rw[Is.bl_iff.mp g] at f;cases d with
   | bl j=>have:=Is.bl_iff.mp f;cases this;exact gv e
   | _=>exact aJ e
 | .non,d,v,b,g,f,e=>by
   cases d with
   | non=>exact(Option.some.inj (show some true=some b from e)).symm
   | _=>exact aJ e
 | .tup l,d,v,b,g,f,e=>by
   cases d with
   | tup m=>
     obtain⟨a,q,p,j,n⟩:=Is.tup_sq g;obtain⟨u,r,c,h,i⟩:=Is.tup_sq f;rw[p] at c;cases c;have:=I.tuple_inj j h;subst this;exact eO I n i e
   | _=>exact aJ e
 | .lst l,d,v,b,g,f,e=>by
   cases d with
   | lst m=>
     obtain⟨a,q,p,_,j,n⟩:=Is.lst_iff.mp g;obtain⟨u,r,c,_,h,i⟩:=Is.lst_iff.mp f;rw[p] at c;cases c;have:q=r:=by rw[j] at h;cases h;rfl
     subst this;have e:(if l.length=m.length then D.eqL l m else some false)=some b:=e;have x:l.length=m.length:=by rw[n.length,i.length]
     rw[if_pos x] at e;exact eO I n i e
   | fl m=>
     obtain⟨a,q,p,_,j,n⟩:=Is.lst_iff.mp g;obtain⟨u,o,r,c,h,i⟩:=Is.fl_iff.mp f;rw[p] at c;cases c;rw[j] at h;cases h
   | _=>exact aJ e
 | .dct _ _,d,v,b,g,f,e=>by cases d<;>exact aJ e
 | .fl l,d,v,b,g,f,e=>by
   cases d with
   | fl m=>
     obtain⟨a,o,q,p,j,n⟩:=Is.fl_iff.mp g;obtain⟨u,o',r,c,h,i⟩:=Is.fl_iff.mp f;rw[p] at c;cases c;have:q=r:=by rw[j] at h;cases h;rfl
     subst this;have e:(if l.length=m.length then D.eqL l m else some false)=some b:=e;have x:l.length=m.length:=by rw[n.length,i.length]
     rw[if_pos x] at e;exact eO I n i e
   | lst m=>
     obtain⟨a,o,q,p,j,n⟩:=Is.fl_iff.mp g;obtain⟨u,r,c,_,h,i⟩:=Is.lst_iff.mp f;rw[p] at c;cases c;rw[j] at h;cases h
   | _=>exact aJ e
 | .fd _ _,d,v,b,g,f,e=>by cases d<;>(exact aJ e)
theorem eO(I:Ad X A0 Y H s):∀{l m:List D} {c:List V} {b:Bool},aa X.K A1 H l c->aa X.K A2 H m c->D.eqL l m=some b->b=true
 | [],m,c,b,f,a,e=>by
   rw[aa.nil.mp f] at a;cases m with
   | nil=>unfold D.eqL at e;simpa using e.symm
   | cons x r=>obtain⟨_,_,z,_⟩:=aa.cons.mp a;cases z
 | d::l,m,c,b,f,a,e=>by
   obtain⟨v,r,h,i,g⟩:=aa.cons.mp f;subst h;cases m with
   | nil=>have:=aa.nil.mp a;cases this
   | cons x m=>
     obtain⟨v',r',f,h,j⟩:=aa.cons.mp a;cases f;unfold D.eqL at e;cases q1:D.eqq d x with
     | none=>rw[q1] at e;cases e
     | some a=>
       cases q2:D.eqL l m with
       | none=>rw[q1,q2] at e;cases e
       | some d=>
         rw[q1,q2] at e;have e:some (a&&d)=some b:=e;cases e;rw[gw I i h q1,eO I g j q2];rfl
end
def BJ:List D->List D->List Bool
 | a::l,b::m=>((D.eqq a b).getD false)::BJ l m
 | _,_=>[]
theorem dX:∀(l m:List D),(BJ l m).length=min l.length m.length
 | [],m=>by cases m<;>simp[BJ]
 | a::l,[]=>by simp[BJ]
 | a::l,b::m=>by simp[BJ,dX l m]
theorem dY:∀{l m:List D} {b:Bool},D.eqL l m=some b->b=((BJ l m).all id&&l.length == m.length)
 | [],[],b,e=>by unfold D.eqL at e;simpa [BJ] using e.symm
 | [],_::_,b,e=>by unfold D.eqL at e;simpa [BJ] using e.symm
 | _::_,[],b,e=>by unfold D.eqL at e;simpa [BJ] using e.symm
 | a::l,x::m,b,e=>by
   unfold D.eqL at e;cases q1:D.eqq a x with
   | none=>rw[q1] at e;cases e
   | some a=>
     cases q2:D.eqL l m with
     | none=>rw[q1,q2] at e;cases e
     | some c=>
       rw[q1,q2] at e;have e:some (a&&c)=some b:=e;cases e;rw[dY q2];simp[BJ,q1,Bool.and_assoc]
theorem jZ:∀{l m:List D} {b:Bool} {j:Nat} {x y:D},D.eqL l m=some b->l[j]?=some x->m[j]?=some y->D.eqq x y=some ((BJ l m).getD j false)
 | [],_,_,_,_,_,_,h,_=>by simp at h
 | _::_,[],_,_,_,_,_,_,h=>by simp at h
 | a::l,c::m,b,j,x,y,e,f,d=>by
   unfold D.eqL at e;cases q1:D.eqq a c with
   | none=>rw[q1] at e;cases e
   | some a=>
     cases q2:D.eqL l m with
     | none=>rw[q1,q2] at e;cases e
     | some a=>
       cases j with
       | zero=>simp at f d;subst f d;simp[BJ,q1]
       | succ j=>
         have:=jZ (j:=j) q2 (by simpa using f) (by simpa using d);simpa [BJ] using this
theorem eP:∀{l:List D} {j:Nat} {x:D},l[j]?=some x->x.dep<=D.depL l
 | [],_,_,h=>by simp at h
 | a::l,0,x,h=>by simp at h;subst h;unfold D.depL;omega
 | a::l,j+1,x,h=>by
   have:=eP (j:=j) (l:=l) (x:=x) (by simpa using h);unfold D.depL;omega
instance D.plain:D->Bool
 | .tup _=>false
 | .lst _=>false
 | .dct _ _=>false
 | .fl _=>false
 | .fd _ _=>false
 | _=>true
def j0{b:Bool}(c:d1.plain=true)(e:D.eqq d1 d2=some b)(f:Is X.K A1 H d1 v1)(d:Is X.K A2 H d2 v2)(r1:An v1 u1)(r2:An v2 u2):EqAt A s u1 u2 b:=by
 cases d1 with
 | int i=>
   cases d2 with
   | int j=>
     have b:=Is.int_iff.mp f;have a:=Is.int_iff.mp d;subst b a;obtain⟨t,rfl⟩:=r1;obtain⟨g,rfl⟩:=r2;cases (show some _=some _ from e);exact EqAt.int_int i t j g
   | _=>exact aJ e
 | str i=>
   cases d2 with
   | str j=>
     have b:=Is.str_iff.mp f;have a:=Is.str_iff.mp d;subst b a;obtain⟨t,rfl⟩:=r1;obtain⟨g,rfl⟩:=r2;cases (show some _=some _ from e);exact EqAt.str_str i t j g
   | _=>exact aJ e
 | bl i=>
   cases d2 with
   | bl j=>
     have b:=Is.bl_iff.mp f;have a:=Is.bl_iff.mp d;subst b a;cases r1;cases r2;cases (show some _=some _ from e);exact EqAt.bool_bool i j
   | _=>exact aJ e
 | non=>
   cases d2 with
   | non=>
     have b:=Is.non_iff.mp f;have a:=Is.non_iff.mp d;subst b a;cases r1;cases r2;cases (show some _=some _ from e);exact EqAt.same _
   | _=>exact aJ e
 | tup l=>exact nomatch (show false=true from c)
 | lst l=>exact nomatch (show false=true from c)
 | dct _ _=>exact nomatch (show false=true from c)
 | fl _=>exact nomatch (show false=true from c)
 | fd _ _=>exact nomatch (show false=true from c)
def dg{n:Nat}{b:Bool}(e:D.eqL l m=some b)(u:aa X.K A1 H l x)(p:aa X.K A2 H m y)(q:Ao x a)(d:Ao y its2)(z:∀{c g:D} {b:Bool} {f o:V} {i h:Value},c.dep<=n->D.eqq c g=some b->Is X.K A1 H c f->Is X.K A2 H g o->An f i->An o h->EqAt A s i h b)(v:D.depL l<=n)(j:Nat)(h:j<a.toArray.size)(b:j<its2.toArray.size):EqAt A s a.toArray[j] its2.toArray[j] ((BJ l m).getD j false):=by
 have g:j<a.length:=by simpa using h
 have c:j<its2.length:=by simpa using b
 have h:j<l.length:=by rw[u.length,q.length];exact g
 have b:j<m.length:=by rw[p.length,d.length];exact c
 have n:l[j]?=some l[j]:=Ba h;have r:m[j]?=some m[j]:=Ba b;obtain⟨f,h,s⟩:=u.get n;obtain⟨o,i,m⟩:=p.get r;obtain⟨l,f,r1⟩:=q.get h;obtain⟨o,b,r2⟩:=d.get i;have h:a.toArray[j]=l:=by
  rw[Ba g] at f;have:=Option.some.inj f;simpa using this
 have d:its2.toArray[j]=o:=by
  rw[Ba c] at b;have:=Option.some.inj b;simpa using this
 rw[h,d];exact z (Aw (eP n) v) (jZ e n r) s m r1 r2
def eQ(I:Ad X A0 Y H s):∀(n:Nat) {A:Around} {g d:D} {b:Bool} {c i:V} {a f:Value},g.dep<=n->A.units+n<cLine->D.eqq g d=some b->Is X.K A1 H g c->Is X.K A2 H d i->An c a->An i f->EqAt A s a f b:=by
 intro n;induction n with
 | zero=>
   intro A g d b c i a f o j e p h r1 r2;refine j0 ?_ e p h r1 r2;cases g with
   | tup l=>exact absurd o (Nat.not_succ_le_zero _)
   | lst l=>exact absurd o (Nat.not_succ_le_zero _)
   | dct _ _=>cases d<;>exact aJ e
   | fl _=>exact absurd o (Nat.not_succ_le_zero _)
   | fd _ _=>cases d<;>exact aJ e
   | _=>rfl
 | succ n m=>
   intro A g d b c i a f o j e p h r1 r2;by_cases Y:g.plain=true
   ·exact j0 Y e p h r1 r2
   have v:A.units<cLine:=Cc (Ce _ _) j;have C:∀{g d:D} {b:Bool} {c i:V} {a f:Value},g.dep<=n->D.eqq g d=some b->Is X.K A1 H g c->Is X.K A2 H d i->An c a->An i f->EqAt A.in1 s a f b:=
    λo e p h r1 r2=>m (A:=A.in1) o (by rw[Around.in1_units,Nat.add_right_comm];exact j) e p h r1 r2
   have c:∀{l m:List D},g.asL=some l->d.asL=some m->D.depL l<=n->(if l.length=m.length then D.eqL l m else some false)=some b->EqAt A s a f b:=λ{l m} j i R e'=>by
    obtain⟨a,Z,F,Q,E,_⟩:=Is.asL p j;obtain⟨x,us,r,U,B,_⟩:=Is.asL h i;have P:a=x->b=true:=λz=>by
     subst z;rw[r] at h;rw[F] at p;exact gw I p h e
    subst F r;cases r1;cases r2;by_cases z:a=x
    ·rw[P z,z];exact EqAt.same _
    ·obtain⟨u,G,N,_⟩:=I.list (.inl Q)
     obtain⟨f,i,M,_⟩:=I.list (.inl U);have L:u.toArray.size=l.length:=by rw[AQ,<-G.length,<-E.length]
     have O:f.toArray.size=m.length:=by rw[AQ,<-i.length,<-B.length]
     by_cases y:l.length=m.length
     ·rw[if_pos y] at e'
      have q:=RcAt.lists (A:=A) (e:=λj=>(BJ l m).getD j false) N.isList M.isList (by rw[L,O,y]) v (λj W T=>dg e' E B G i C R j W T);have J:=dY e';have el:l.length=(BJ l m).length:=by rw[dX,<-y,Nat.min_self]
      rw[L,el,dW] at q;rw[y] at J;simp at J;rw[J];exact EqAt.of_refs z q
     ·rw[if_neg y] at e'
      cases e';exact EqAt.of_refs z (RcAt.lists_lengths N.isList M.isList (by rw[L,O];simpa using y) v)
   cases g with
   | tup l=>
     cases d with
     | tup m=>
       obtain⟨a,Z,F,Q,E⟩:=Is.tup_sq p;obtain⟨x,us,r,U,B⟩:=Is.tup_sq h;have P:a=x->b=true:=λz=>by
        subst z;rw[r] at h;rw[F] at p;exact gw I p h e
       subst F r;cases r1;cases r2;by_cases z:a=x
       ·rw[P z,z];exact EqAt.same _
       ·obtain⟨u,G,N,_⟩:=I.tuple Q
        obtain⟨f,i,M,_⟩:=I.tuple U;have R:D.depL l<=n:=GR o;have q:=RcAt.tuples (A:=A) (e:=λj=>(BJ l m).getD j false) (show s.heap.IsTuple a u.toArray from N) (show s.heap.IsTuple x f.toArray from M) v (λj W T=>dg e E B G i C R j W T);have J:=dY e;have L:u.toArray.size=l.length:=by rw[AQ,<-G.length,<-E.length]
        have O:f.toArray.size=m.length:=by rw[AQ,<-i.length,<-B.length]
        rw[L,O,<-dX,dW,<-J] at q;exact EqAt.of_refs z q
     | _=>exact aJ e
   | lst l=>
     cases d with
     | lst m=>exact c rfl rfl (GR o) e
     | fl m=>exact c rfl rfl (GR o) e
     | _=>exact aJ e
   | dct _ _=>cases d<;>exact aJ e
   | fl l=>
     cases d with
     | lst m=>exact c rfl rfl (GR o) e
     | fl m=>exact c rfl rfl (GR o) e
     | _=>exact aJ e
   | fd _ _=>cases d<;>exact aJ e
   | _=>exact absurd rfl Y
end
section
def j3(I:Ad X A0 Y H s){n:Nat}{b:Bool}(z:o.dep<=n)(a:A.units+n<cLine)(e:D.eqq o d=some b)(x:Is X.K A1 H o J)(u:Is X.K A2 H d O)(r1:An J y)(r2:An O v) :
 RcAt A s y v b/\RcNeAt A s y v (!b):=by
 have h:A.units<cLine:=Cc (Ce _ _) a;have c:∀{l m:List D},o.asL=some l->d.asL=some m->D.depL l+1<=n->(if l.length=m.length then D.eqL l m else some false)=some b->RcAt A s y v b/\RcNeAt A s y v (!b):=λ{l m} f g hd' e'=>by
  obtain⟨a,vs,ea,s1,P,_⟩:=Is.asL x f;obtain⟨Z,us,R,Y,C,_⟩:=Is.asL u g;subst ea R;cases r1;cases r2;obtain⟨p,L,M,_⟩:=I.list (.inl s1);obtain⟨f,g,B,_⟩:=I.list (.inl Y);have Q:p.toArray.size=l.length:=by rw[AQ,<-L.length,<-P.length]
  have T:f.toArray.size=m.length:=by rw[AQ,<-g.length,<-C.length]
  by_cases i:l.length=m.length
  ·rw[if_pos i] at e'
   have r:∀{o d:D} {b:Bool} {J O:V} {y v:Value},o.dep<=n-1->D.eqq o d=some b->Is X.K A1 H o J->Is X.K A2 H d O->An J y->An O v->EqAt A.in1 s y v b:=
    λz e x u r1 r2=>eQ I (n-1) (A:=A.in1) z (by rw[Around.in1_units];omega) e x u r1 r2
   have q:=RcAt.lists (A:=A) (e:=λj=>(BJ l m).getD j false) M.isList B.isList (by rw[Q,T,i]) h (λj N E=>dg e' P C L g r 'o' j N E);have W:=RcNeAt.lists (A:=A) (e:=λj=>(BJ l m).getD j false) M.isList B.isList (by rw[Q,T,i]) h (λj N E=>dg e' P C L g r 'o' j N E);have eb:=dY e';have G:l.length=(BJ l m).length:=by rw[dX,<-i,Nat.min_self]
   rw[Q,G,dW] at q W;have F:b=(BJ l m).all id:=by rw[eb,i];simp
   rw[F];exact⟨q,W⟩
  ·rw[if_neg i] at e'
   cases e';exact{RcAt.lists_lengths M.isList B.isList (by rw[Q,T];simpa using i) h,RcNeAt.lists_lengths M.isList B.isList (by rw[Q,T];simpa using i) h}
 cases o with
 | int i=>
   cases d with
   | int j=>
     have G:=Is.int_iff.mp x;have F:=Is.int_iff.mp u;subst G F;obtain⟨t,rfl⟩:=r1;obtain⟨U,rfl⟩:=r2;cases (show some _=some _ from e);exact{RcAt.int_int i t j U,RcNeAt.int_int i t j U}
   | _=>exact aJ e
 | str i=>
   cases d with
   | str j=>
     have G:=Is.str_iff.mp x;have F:=Is.str_iff.mp u;subst G F;obtain⟨t,rfl⟩:=r1;obtain⟨U,rfl⟩:=r2;cases (show some _=some _ from e);exact{RcAt.str_str i t j U,RcNeAt.str_str i t j U}
   | _=>exact aJ e
 | bl i=>
   cases d with
   | bl j=>
     have G:=Is.bl_iff.mp x;have F:=Is.bl_iff.mp u;subst G F;cases r1;cases r2;cases (show some _=some _ from e);exact{RcAt.bool_bool i j,RcNeAt.bool_bool i j}
   | _=>exact aJ e
 | non=>
   cases d with
   | non=>
     have G:=Is.non_iff.mp x;have F:=Is.non_iff.mp u;subst G F;cases r1;cases r2;cases (show some _=some _ from e);exact⟨RcAt.none_none,RcNeAt.none_none⟩
   | _=>exact aJ e
 | tup l=>
   cases d with
   | tup m=>
     obtain⟨a,vs,ea,s1,P⟩:=Is.tup_sq x;obtain⟨Z,us,R,Y,C⟩:=Is.tup_sq u;subst ea R;cases r1;cases r2;obtain⟨p,L,M,_⟩:=I.tuple s1;obtain⟨f,g,B,_⟩:=I.tuple Y;have hd':D.depL l+1<=n:=z;have r:∀{o d:D} {b:Bool} {J O:V} {y v:Value},o.dep<=n-1->D.eqq o d=some b->Is X.K A1 H o J->Is X.K A2 H d O->An J y->An O v->EqAt A.in1 s y v b:=
      λz e x u r1 r2=>eQ I (n-1) (A:=A.in1) z (by rw[Around.in1_units];omega) e x u r1 r2
     have q:=RcAt.tuples (A:=A) (e:=λj=>(BJ l m).getD j false) (show s.heap.IsTuple a p.toArray from M) (show s.heap.IsTuple Z f.toArray from B) h (λj N E=>dg e P C L g r 'o' j N E);have W:=RcNeAt.tuples (A:=A) (e:=λj=>(BJ l m).getD j false) (show s.heap.IsTuple a p.toArray from M) (show s.heap.IsTuple Z f.toArray from B) h (λj N E=>dg e P C L g r 'o' j N E);have eb:=dY e;have Q:p.toArray.size=l.length:=by rw[AQ,<-L.length,<-P.length]
     have T:f.toArray.size=m.length:=by rw[AQ,<-g.length,<-C.length]
     rw[Q,T,<-dX,dW,<-eb] at q W;exact⟨q,W⟩
   | _=>exact aJ e
 | lst l=>
   cases d with
   | lst m=>exact c rfl rfl z e
   | fl m=>exact c rfl rfl z e
   | _=>exact aJ e
 | dct _ _=>cases d<;>exact aJ e
 | fl l=>
   cases d with
   | lst m=>exact c rfl rfl z e
   | fl m=>exact c rfl rfl z e
   | _=>exact aJ e
 | fd _ _=>cases d<;>exact aJ e
def HX(K:FG)(neg:Bool):R2:=λx y H Q=>∃(A:Addr->Prop) (d1 d2:D) (b:Bool),Is K A H d1 x/\Is K A H d2 y/\d1.dep<=30/\D.eqq d1 d2=some b/\Q (.bl (if neg then !b else b)) H
def gx{k:Nat}(f:Bc k X.A):AU X (compareOp .Eq) (HX X.K false):=by
 intro a s Y H x y v u Q I g i h;obtain⟨A,l,j,b,d,c,a,e,q⟩:=h;exact(j3 I (n:=30) a (by have:=f.units;omega) e d c g i).1 _ _ _ _ {.bl b,H,I,rfl,q}
def j4{k:Nat}(f:Bc k X.A):AU X (compareOp .NotEq) (HX X.K true):=by
 intro a s Y H x y v u Q I g i h;obtain⟨A,l,j,b,d,c,a,e,q⟩:=h;exact(j3 I (n:=30) a (by have:=f.units;omega) e d c g i).2 _ _ _ _ {.bl (!b),H,I,rfl,q}
def B4(x:D):List D->Option Bool
 | []=>some false
 | d::l=>(D.eqq d x).bind λb=>(B4 x l).map λc=>b||c
def HY(K:FG)(neg:Bool):R2:=λx y H Q=>∃(A:Addr->Prop) (d:D) (l:List D) (b:Bool),Is K A H d x/\(Is K A H (.lst l) y\/Is K A H (.tup l) y)/\D.depL l<=30/\B4 d l=some b/\Q (.bl (if neg then !b else b)) H
open Classical in
def EL(x:D)(l:List D)(us:List Value)(u:Value):Bool:=decide (∃(j:Nat) (d:D),us[j]?=some u/\l[j]?=some d/\D.eqq d x=some true)
def eR:EL x l a u=true↔∃(j:Nat) (d:D),a[j]?=some u/\l[j]?=some d/\D.eqq d x=some true:=by
 classical
 unfold EL;exact decide_eq_true_iff
theorem j5:∀{l:List D} {b:Bool},B4 x l=some b->∀(j:Nat) (d:D),l[j]?=some d->∃c,D.eqq d x=some c
 | [],_,_,_,_,h=>by simp at h
 | a::l,b,e,j,d,h=>by
   unfold B4 at e;cases q1:D.eqq a x with
   | none=>rw[q1] at e;cases e
   | some c=>
     cases q2:B4 x l with
     | none=>rw[q1,q2] at e;cases e
     | some a=>
       cases j with
       | zero=>simp at h;subst h;exact⟨c,q1⟩
       | succ j=>exact j5 q2 j d (by simpa using h)
theorem j6:∀{l:List D} {b:Bool},B4 x l=some b->(b=true↔∃(j:Nat) (d:D),l[j]?=some d/\D.eqq d x=some true)
 | [],b,e=>by
   unfold B4 at e;cases e;constructor
   ·intro h;cases h
   ·rintro ⟨j,d,h,_⟩;simp at h
 | a::l,b,e=>by
   unfold B4 at e;cases q1:D.eqq a x with
   | none=>rw[q1] at e;cases e
   | some c=>
     cases q2:B4 x l with
     | none=>rw[q1,q2] at e;cases e
     | some f=>
       rw[q1,q2] at e;have e:some (c||f)=some b:=e;cases e;have c:=j6 q2;rw[Bool.or_eq_true];constructor
       ·rintro (h | h)
        ·subst h;exact{0,a,rfl,q1}
        ·obtain⟨j,d,b,a⟩:=c.mp h
         exact{j+1,d,by simpa using b,a}
       ·rintro ⟨j,d,b,a⟩
        cases j with
        | zero=>
          simp at b;subst b;rw[q1] at a;cases a;exact .inl rfl
        | succ j=>exact .inr (c.mpr {j,d,by simpa using b,a})
def eS(I:Ad X A0 Y H s){b:Bool}(q:D.depL l<=30)(E:A.units+30<cLine)(e:B4 x l=some b)(i:aa X.K A1 H l C)(B:Ao C a)(h:Is X.K A1 H x v)(r:An v u) :
 (∀y∈a.toArray,EqAt A s y u (EL x l a y))/\a.toArray.any (EL x l a)=b:=by
 have n:∀(j:Nat) (y:Value),a[j]?=some y->∃d w,l[j]?=some d/\Is X.K A1 H d w/\An w y:=λj y g=>by
  have m:j<a.length:=(Bd.mp g).1;have b:j<l.length:=by rw[i.length,B.length];exact m
  obtain⟨w,c,v⟩:=i.get (Ba b);obtain⟨o,f,z⟩:=B.get c;rw[g] at f;cases f;exact{_,w,Ba b,v,z}
 have o:∀(j:Nat) (y:Value) (d:D) (c:Bool),a[j]?=some y->l[j]?=some d->D.eqq d x=some c->EqAt A s y u c:=λj y d c g p s=>by
  obtain⟨u,w,b,v,z⟩:=n j y g;rw[p] at b;cases b;exact eQ I 30 (Aw (eP p) q) E s v h z r
 constructor
 ·intro y g
  by_cases p:∃(j:Nat) (d:D),a[j]?=some y/\l[j]?=some d/\D.eqq d x=some true
  ·obtain⟨j,d,q,b,h⟩:=p
   have:EL x l a y=true:=eR.mpr ⟨j,d,q,b,h⟩;rw[this];exact o j y d true q b h
  ·have:EL x l a y=false:=by cases q:EL x l a y with
    | false=>rfl
    | true=>exact(p (eR.mp q)).elim
   rw[this];obtain⟨j,m,q⟩:=List.mem_iff_getElem.mp (show y∈a by simpa using g);have f:a[j]?=some y:=by rw[Ba m,q]
   obtain⟨d,w,b,v,z⟩:=n j y f;obtain⟨c,s⟩:=j5 e j d b;cases c with
   | false=>exact o j y d false f b s
   | true=>exact(p ⟨j,d,f,b,s⟩).elim
 ·apply Fo.mpr
  rw[j6 e];have c:a.toArray.any (EL x l a)=a.any (EL x l a):=by simp
  rw[c,List.any_eq_true];constructor
  ·rintro ⟨y,_,g⟩
   obtain⟨j,d,_,b,h⟩:=eR.mp g;exact⟨j,d,b,h⟩
  ·rintro ⟨j,d,b,h⟩
   have m:j<a.length:=by rw[<-B.length,<-i.length];exact(Bd.mp b).1
   refine{a[j],List.getElem_mem m,?_};exact eR.mpr {j,d,Ba m,b,h}
def wz{k:Nat}(a:Bc k X.A):AU X (compareOp .In) (HY X.K false):=by
 intro b s Y H x y v u Q I r s h;obtain⟨A,d,l,b,n,c,m,e,q⟩:=h;have o:X.A.in1.units+30<cLine:=by rw[Around.in1_units];have:=a.units;omega
 rcases c with c | c
 ·obtain⟨a,u,l,_,i,j⟩:=Is.lst_iff.mp c
  subst l;cases s;obtain⟨f,g,p,_⟩:=I.list (.of i);obtain⟨h,d⟩:=eS I m o e j g n r;exact in_listAt _ p.isList h {.bl b,H,I,by rw[d];rfl,q}
 ·obtain⟨a,u,l,i,j⟩:=Is.tup_sq c
  subst l;cases s;obtain⟨f,g,p,_⟩:=I.tuple i;obtain⟨h,d⟩:=eS I m o e j g n r;exact in_tupleAt _ p h {.bl b,H,I,by rw[d];rfl,q}
def wA{k:Nat}(a:Bc k X.A):AU X (compareOp .NotIn) (HY X.K true):=by
 intro b s Y H x y v u Q I r s h;obtain⟨A,d,l,b,n,c,m,e,q⟩:=h;have o:X.A.in1.units+30<cLine:=by rw[Around.in1_units];have:=a.units;omega
 rcases c with c | c
 ·obtain⟨a,u,l,_,i,j⟩:=Is.lst_iff.mp c
  subst l;cases s;obtain⟨f,g,p,_⟩:=I.list (.of i);obtain⟨h,d⟩:=eS I m o e j g n r;exact notIn_listAt _ p.isList h {.bl (!b),H,I,by rw[d];rfl,q}
 ·obtain⟨a,u,l,i,j⟩:=Is.tup_sq c
  subst l;cases s;obtain⟨f,g,p,_⟩:=I.tuple i;obtain⟨h,d⟩:=eS I m o e j g n r;exact notIn_tupleAt _ p h {.bl (!b),H,I,by rw[d];rfl,q}
variable{S:Type}{W:Wd S}{c:Dx W}
def BE(neg:Bool)(a b:D):Option D:=if a.dep<=30 then (D.eqq a b).map λx=>.bl (if neg then !x else x) else none
instance oIn(neg:Bool)(a b:D):Option D:=match b with
 | .lst l=>if D.depL l<=30 then (B4 a l).map λx=>.bl (if neg then !x else x) else none
 | .tup l=>if D.depL l<=30 then (B4 a l).map λx=>.bl (if neg then !x else x) else none
 | _=>none
open H in
def eT{K:FG}{neg:Bool}(b:c.K=K):Bg c (HX K neg) (BE neg):=by
 subst b;intro f a i e H h d Q g j i e q;unfold BE at e;split at e
 ·rename_i d
  cases h:D.eqq f a with
  | none=>rw[h] at e;cases e
  | some b=>
    rw[h] at e;cases e;exact{_,f,a,b,j,i,d,h,q _ H Ah.refl g bJ}
 ·cases e
open H in
def wB{K:FG}{neg:Bool}(b:c.K=K):Bg c (HY K neg) (oIn neg):=by
 subst b;intro a e f h H j d Q i g f e q;unfold oIn at e;split at e
 ·rename_i l
  split at e
  ·rename_i d
   cases h:B4 a l with
   | none=>rw[h] at e;cases e
   | some b=>
     rw[h] at e;cases e;exact{_,a,l,b,g,.inl f,d,h,q _ H Ah.refl i bJ}
  ·cases e
 ·rename_i l
  split at e
  ·rename_i d
   cases h:B4 a l with
   | none=>rw[h] at e;cases e
   | some b=>
     rw[h] at e;cases e;exact{_,a,l,b,g,.inr f,d,h,q _ H Ah.refl i bJ}
  ·cases e
 ·cases e
end
section
variable{X:Cx}{S:Type}{W:Wd S}{c:Dx W}{g:Gr}{a b e:Expr}{rest:List Expr}{pos:Pos}{fa fb fc:Fn S}{ga gb gc:Gr}
def Jr(S:Type)(f1 f2:Fn S):Fn S:=λZ st=>(f1 Z st).bind λd st1=>match d with
 | .bl true=>f2 Z st1
 | .bl false=>.ok (.bl false) st1
 | _=>.bad
def Ks(S:Type)(f1 f2:Fn S):Fn S:=λZ st=>(f1 Z st).bind λd st1=>match d with
 | .bl true=>.ok (.bl true) st1
 | .bl false=>f2 Z st1
 | _=>.bad
def Kt(S:Type)(f1:Fn S):Fn S:=λZ st=>(f1 Z st).bind λd st1=>match d with
 | .bl b=>.ok (.bl (!b)) st1
 | _=>.bad
def wC{op}(h:DE X c g a f):DE X c g (.BoolOp op [a] pos) f:=nP h
def wD(f:DE X c ga a fa)(d:DE X c g (.BoolOp .And (b::rest) pos) fb):DE X c g (.BoolOp .And (a::b::rest) pos) (Jr S fa fb):=
 (nQ f d).imp λY H Q hI32=>by
  obtain⟨Z,d,R,h,w⟩:=hI32;refine bi (Go.bind (g':=ga) (k:=λd Z f=>match d with | .bl true=>fb Z f | .bl false=>.ok (.bl false) f | _=>.bad) R h w) λv H1 hI112=>?_
  obtain⟨d,f,j,h,l,z,i⟩:=hI112;cases d with
  | bl k=>
    have d:v=.bl k:=Is.bl_iff.mp (show Is c.K 'w' H1 (.bl k) v from z.toR);refine{k,d,?_};cases k with
    | true=>exact dc ⟨Z,f,j,h,i⟩
    | false=>exact dO (i (.bl false) H1 Ah.refl h (AE.val j bJ g))
  | _=>exact(show False from i).elim
def Gm(S:Type)(o o':D->D->Option D)(f1 f2 f3:Fn S):Fn S:=λZ st=>(f1 Z st).bind λd1 st1=>(f2 Z st1).bind λd2 st2=>match o d1 d2 with
 | some (.bl true)=>(f3 Z st2).bind λd3 st3=>Az (o' d2 d3) st3
 | some (.bl false)=>.ok (.bl false) st2
 | _=>.bad
def j7(hr:Bg c r o)(A:Bg c r' o')(h:tD c g (Gm S o o' fa fb fc) Y H Q):HG r r' (tD c ga fa) (tD c gb fb) (tD c gc fc) Y H Q:=by
 obtain⟨Z,F,R,U,w⟩:=h;refine bi (Go.bind (g':=ga) (k:=λy Z u=>(fb Z u).bind λj i=>match o y j with | some (.bl true)=>(fc Z i).bind λl f=>Az (o' j l) f | some (.bl false)=>.ok (.bl false) i | _=>.bad) R U w) λP H1 hI113=>?_
 obtain⟨y,u,R1,z,e1,O,I⟩:=hI113;refine bi (Go.bind (g':=gb) (k:=λj Z i=>match o y j with | some (.bl true)=>(fc Z i).bind λl f=>Az (o' j l) f | some (.bl false)=>.ok (.bl false) i | _=>.bad) R1 z I) λE H2 hI114=>?_
 obtain⟨j,i,R2,p,T,C,s⟩:=hI114;cases q:o y j with
 | none=>simp only[q] at s;exact(show False from s).elim
 | some d=>
   simp only[q] at s;cases d with
   | bl k=>
     refine hr y j P E H2 i (.bl k) _ p (O.toR.ext T z) C.toR q λv B e' m n=>?_
     refine{k,Is.bl_iff.mp n,?_};have R':=R2.ext p e';cases k with
     | false=>exact dO (s (.bl false) B e' m (AE.val R2 bJ g))
     | true=>
       refine dc ?_;have N:Go c g Y (λZ F=>(fc Z F).bind λl f=>Az (o' j l) f) H2 Q Z i:=s;refine bi (Go.bind (g':=gc) (k:=λl _ f=>Az (o' j l) f) R' m (N.from e' m)) λM H3 hI115=>?_
       obtain⟨l,f,J,x,e3,z3,G⟩:=hI115;obtain⟨d,L,q5⟩:=Go.done G x;exact A j l E M H3 f d Q x ((C.toR.ext e' p).ext e3 m) z3.toR L λv B a b n=>q5 v B a b (n.val J g)
   | _=>exact(show False from s).elim
def wE(j:AU X (compareOp op) r)(h:AU X (compareOp op') r')(l:Bg c r o)(f:Bg c r' o')(p:DE X c ga a fa)(m:DE X c gb b fb)(i:DE X c gc d fc)(n:autoParam (lastMarks [op,op'] [b,d]=false) z0d._auto_1):DE X c g (.Compare a [op,op'] [b,d] pos) (Gm S o o' fa fb fc):=
 (oo j h p m i n).imp λY H Q h=>j7 l f h
def wF(j:AU X (compareOp op) r)(h:AU X (compareOp op') r')(l:Bg c r o)(f:Bg c r' o')(p:DE X c ga a fa)(m:DE X c gb b fb)(i:DE X c gc d fc)(n:autoParam (lastMarks [op,op'] [b,d]=false) z0d._auto_1):DT X c (.Compare a [op,op'] [b,d] pos) (fB S (Gm S o o' fa fb fc)):=
 (oq j h p m i n).imp λY H Q q=>by
  have d:tB (tD c .R (Gm S o o' fa fb fc)) Y H Q:=dU q;exact j7 (ga:=ga) (gb:=gb) (gc:=gc) l f d
instance D.isNon:D->Bool
 | .non=>true
 | _=>false
def Fv(neg:Bool)(a b:D):Option D:=match b with
 | .non=>some (.bl (if neg then !a.isNon else a.isNon))
 | _=>none
def j8{K:FG}{A:Addr->Prop}{H:Hp}{d:D}{v:V}(h:Is K A H d v):(decide (v=V.non))=d.isNon:=by
 cases d with
 | non=>rw[Is.non_iff.mp h];rfl
 | bl b=>rw[Is.bl_iff.mp h];rfl
 | int i=>rw[Is.int_iff.mp h];rfl
 | str x=>rw[Is.str_iff.mp h];rfl
 | tup l=>obtain⟨a,d,e,_⟩:=Is.tup_sq h;rw[e];rfl
 | lst l=>obtain⟨a,d,e,_⟩:=Is.lst_iff.mp h;rw[e];rfl
 | dct k l=>obtain⟨a,d,e,_⟩:=Is.dct_iff.mp h;rw[e];rfl
 | fl l=>obtain⟨a,o,d,e,_⟩:=Is.fl_iff.mp h;rw[e];rfl
 | fd k l=>obtain⟨a,o,d,f,e,_⟩:=Is.fd_iff.mp h;rw[e];rfl
def wG:Bg c (λx y H Q=>y=.non/\Q (.bl (decide (x=.non))) H) (Fv false):=by
 intro h f m l H n d Q i j h e q;cases f with
 | non=>
   cases e;refine{Is.non_iff.mp h,?_};rw[j8 j];exact q _ H Ah.refl i bJ
 | _=>cases e
def wH:Bg c (λx y H Q=>y=.non/\Q (.bl (!decide (x=.non))) H) (Fv true):=by
 intro h f m l H n d Q i j h e q;cases f with
 | non=>
   cases e;refine{Is.non_iff.mp h,?_};rw[j8 j];exact q _ H Ah.refl i bJ
 | _=>cases e
def HZ(S:Type)(t:AV S)(f1 f2:Fn S):Fn S:=λZ st=>(t Z st).bind λk st1=>if k=true then f1 Z st1 else f2 Z st1
def qq(f:DT X c d t)(i:DE X c g a fa)(h:DE X c g b fb):DE X c g (.IfExp d a b pos) (HZ S t fa fb):=
 (nR f i h).imp λY H Q hI33=>by
  obtain⟨Z,d,R,h,w⟩:=hI33;refine{Z,d,R,h,ak (ae.mp w) (λk d q H1 e f=>?_) λx d q=>q};have i:Go c g Y (if k=true then fa else fb) H Q Z d:=by
   cases k<;>exact q
  have q2:=i.from e f;cases k with
  | true=>exact dc {Z,d,R.ext h e,f,q2}
  | false=>exact dO {Z,d,R.ext h e,f,q2}
def Js(S:Type)(f:Fn S):Fn S:=λZ st=>(f Z st).bind λd st1=>match d with
 | .int i=>.ok (.int (-i)) st1
 | _=>.bad
def qr(d:DE X c ga a fa):DE X c g (.UnaryOp .USub a pos) (Js S fa):=
 (n9 oh d).imp λY H Q hI34=>by
  obtain⟨Z,d,R,h,w⟩:=hI34;refine bi (Go.bind (g':=ga) (k:=λd _ f=>match d with | .int i=>.ok (.int (-i)) f | _=>.bad) R h w) λv H1 hI116=>?_
  obtain⟨d,f,l,h,m,z,j⟩:=hI116;cases d with
  | int i=>exact{i,Is.int_iff.mp (show Is c.K 'w' H1 (.int i) v from z.toR),j (.int (-i)) H1 Ah.refl h (AE.val l bD g)}
  | _=>exact(show False from j).elim
end
inductive Bt where
 | int | bool | str | list | tuple | dict
instance Bt.nm:Bt->String
 | .int=>"int"
 | .bool=>"bool"
 | .str=>"str"
 | .list=>"list"
 | .tuple=>"tuple"
 | .dict=>"dict"
instance isI(T:Bt)(d:D):Bool:=match T,d with
 | .int,.int _=>true
 | .int,.bl _=>true
 | .bool,.bl _=>true
 | .str,.str _=>true
 | .list,.lst _=>true
 | .list,.fl _=>true
 | .tuple,.tup _=>true
 | .dict,.dct _ _=>true
 | .dict,.fd _ _=>true
 | _,_=>false
section
variable{X:Cx}{A0:List 'p'}{Y:St}{H:Hp}{s:Shared}{S:Type}{W:Wd S}{c:Dx W}{g ga:Gr}
instance fIs(S:Type)(T:Bt)(f:Fn S):Fn S:=λZ st=>(f Z st).bind λd st1=>.ok (.bl (isI T d)) st1
def BF:List D->Option D
 | [.lst l]=>some (.int l.length)
 | [.tup l]=>some (.int l.length)
 | [.fl l]=>some (.int l.length)
 | _=>none
open H in
def j9{K:FG}(a:c.K=K):Cp c (λu H Q=>∃p o,u=[.ref p]/\(AT K H p o\/AN K H p o)/\Q (.int o.length) H) BF:=by
 subst a;intro l b H f d Q n z e q;unfold BF at e;split at e
 ·rename_i m
  cases e;obtain⟨v,r,b,i,d⟩:=aa.cons.mp z;obtain⟨a,j,l,_,h,f⟩:=Is.lst_iff.mp i;rw[aa.nil.mp d,l] at b;exact{a,j,b,.inl (.of h),by rw[<-f.length];exact q _ H Ah.refl n bD}
 ·rename_i m
  cases e;obtain⟨v,r,b,i,d⟩:=aa.cons.mp z;obtain⟨a,j,l,h,f⟩:=Is.tup_sq i;rw[aa.nil.mp d,l] at b;exact{a,j,b,.inr h,by rw[<-f.length];exact q _ H Ah.refl n bD}
 ·rename_i m
  cases e;obtain⟨v,r,b,i,d⟩:=aa.cons.mp z;obtain⟨a,j,l,h,f,_⟩:=Is.asL i rfl;rw[aa.nil.mp d,l] at b;exact{a,j,b,.inl (.inl h),by rw[<-f.length];exact q _ H Ah.refl n bD}
 ·cases e
def BK:List D->Option D
 | [.lst l]=>if D.immL l=true then some (.tup l) else none
 | [.tup l]=>if D.immL l=true then some (.tup l) else none
 | _=>none
open H in
def wI{K:FG}(a:c.K=K):Cp c (λy H Q=>∃p u,y=[.ref p]/\((AT K H p u/\∀l,H l=none->Q (.ref l) (Af H l (.tup u)))\/(AN K H p u/\Q (.ref p) H))) BK:=by
 subst a;intro l b H f d Q i z e q;unfold BK at e;split at e
 ·rename_i m
  split at e
  ·rename_i im
   cases e;obtain⟨v,r,b,l,f⟩:=aa.cons.mp z;obtain⟨a,o,x,_,d,j⟩:=Is.lst_iff.mp l;rw[aa.nil.mp f,x] at b;exact{a,o,b,.inl {.of d,λp h=>q _ _ (Ah.laid h) (aY i h) (AE.tup i h (λ_ n=>n) im j)}}
  ·cases e
 ·rename_i m
  split at e
  ·rename_i im
   cases e;obtain⟨v,r,b,l,f⟩:=aa.cons.mp z;obtain⟨a,o,x,d,j⟩:=Is.tup_iff.mp l;rw[aa.nil.mp f,x] at b;exact{a,o,b,.inr {.of d,q _ H Ah.refl i (Is.tup d (aa.ofImm im j))}}
  ·cases e
 ·cases e
def FT:List D->Option D
 | [.lst l]=>if D.immL l=true then some (.lst l) else none
 | [.tup l]=>if D.immL l=true then some (.lst l) else none
 | _=>none
open H in
def wJ{K:FG}(a:c.K=K):Cp c (λy H Q=>∃p u,y=[.ref p]/\(AT K H p u\/AN K H p u)/\∀l,H l=none->Q (.ref l) (Af H l (.lst u))) FT:=by
 subst a;intro l b H h d Q f z e q;unfold FT at e;split at e
 ·rename_i m
  split at e
  ·rename_i im
   cases e;obtain⟨v,r,d,l,h⟩:=aa.cons.mp z;obtain⟨a,o,x,_,j,i⟩:=Is.lst_iff.mp l;rw[aa.nil.mp h,x] at d;exact{a,o,d,.inl (.of j),λp b=>q _ _ (Ah.laid b) (aY f b) (AE.lst f b (λ_ n=>n) im i)}
  ·cases e
 ·rename_i m
  split at e
  ·rename_i im
   cases e;obtain⟨v,r,d,l,h⟩:=aa.cons.mp z;obtain⟨a,o,x,j,i⟩:=Is.tup_sq l;rw[aa.nil.mp h,x] at d;exact{a,o,d,.inr j,λp b=>q _ _ (Ah.laid b) (aY f b) (AE.lst f b (λ_ n=>n) im i)}
  ·cases e
 ·cases e
def Gn:List D->Option D
 | [.int i]=>some (.int i)
 | [.bl k]=>some (.int (if k then 1 else 0))
 | _=>none
open H in
def wK:Cp c (λh H Q=>(∃i,h=[.int i]/\Q (.int i) H)\/∃k,h=[.bl k]/\Q (.int (if k then 1 else 0)) H) Gn:=by
 intro l b H a d Q f z e q;unfold Gn at e;split at e
 ·rename_i i
  cases e;obtain⟨v,r,a,d,b⟩:=aa.cons.mp z;rw[aa.nil.mp b,Is.int_iff.mp d] at a;exact .inl {i,a,q _ H Ah.refl f bD}
 ·rename_i i
  cases e;obtain⟨v,r,a,d,b⟩:=aa.cons.mp z;rw[aa.nil.mp b,Is.bl_iff.mp d] at a;exact .inr {i,a,q _ H Ah.refl f bD}
 ·cases e
def H8(f:Int->Int->Int):List D->Option D
 | [.int i,.int j]=>some (.int (f i j))
 | _=>none
open H in
def wL(f:Int->Int->Int):Cp c (λn H Q=>∃i j,n=[.int i,.int j]/\Q (.int (f i j)) H) (H8 f):=by
 intro l a H b d Q m z e q;unfold H8 at e;split at e
 ·rename_i i j
  cases e;obtain⟨v,r,f,l,h⟩:=aa.cons.mp z;obtain⟨v',r',d,b,a⟩:=aa.cons.mp h;rw[d,aa.nil.mp a,Is.int_iff.mp l,Is.int_iff.mp b] at f;exact{i,j,f,q _ H Ah.refl m bD}
 ·cases e
def De:List D->Option (List Bool)
 | []=>some []
 | .bl b::l=>(De l).map λr=>b::r
 | _=>none
theorem kc{K:FG}{A:Addr->Prop}{H:Hp}:∀{l:List D} {d:List V} {a:List Bool},De l=some a->aa K A H l d->d=a.map V.bl
 | [],d,a,e,h=>by cases e;exact aa.nil.mp h
 | .bl b::l,d,a,e,h=>by
   unfold De at e;cases q:De l with
   | none=>rw[q] at e;cases e
   | some r=>
     rw[q] at e;cases e;obtain⟨v,i,f,b,a⟩:=aa.cons.mp h;rw[f,Is.bl_iff.mp b,kc q a];rfl
 | .non::_,_,_,e,_=>by simp[De] at e
 | .int _::_,_,_,e,_=>by simp[De] at e
 | .str _::_,_,_,e,_=>by simp[De] at e
 | .tup _::_,_,_,e,_=>by simp[De] at e
 | .lst _::_,_,_,e,_=>by simp[De] at e
 | .dct _ _::_,_,_,e,_=>by simp[De] at e
def Gp(f:List Bool->Bool):List D->Option D
 | [.lst l]=>(De l).map λbs=>.bl (f bs)
 | _=>none
open H in
def qs{K:FG}(f:List Bool->Bool):Cp c (λn H Q=>∃(a:Addr) (b:List Bool),n=[.ref a]/\AT K H a (b.map V.bl)/\Q (.bl (f b)) H) (Gp f):=by
 intro l h H f d Q j z e q;unfold Gp at e;split at e
 ·rename_i m
  cases d:De m with
  | none=>rw[d] at e;cases e
  | some b=>
    rw[d] at e;cases e;obtain⟨v,r,h,m,i⟩:=aa.cons.mp z;obtain⟨a,p,o,_,f,l⟩:=Is.lst_iff.mp m;rw[aa.nil.mp i,o] at h;rw[kc d l] at f;exact{a,b,h,.of f,q _ H Ah.refl j bJ}
 ·cases e
def Gu:D->D->Option D
 | .lst l,.lst m=>if D.immL l=true/\D.immL m=true/\l.length+m.length<=sizeLine then some (.lst (l++m)) else none
 | _,_=>none
open H in
def qt:Bg c G0 Gu:=by
 intro b a e h H i d Q f n j e q;unfold Gu at e;split at e
 ·rename_i l m
  split at e
  ·rename_i h
   cases e;obtain⟨a,l,u,_,p,i⟩:=Is.lst_iff.mp n;obtain⟨b,r,o,_,m,d⟩:=Is.lst_iff.mp j;exact{a,b,l,r,u,o,p,m,by rw[<-i.length,<-d.length];exact h.2.2,λp a=>q _ _ (Ah.laid a) (aY f a) (AE.lst f a (λ_ n=>n) (cg h.1 h.2.1) (i.append d))}
  ·cases e
 ·cases e
def Gv:D->D->Option D
 | .tup l,.tup m=>if D.immL l=true/\D.immL m=true/\l.length+m.length<=sizeLine/\l.isEmpty=false then some (.tup (l++m)) else none
 | _,_=>none
open H in
def qu{K:FG}(a:c.K=K):Bg c (GZ K) Gv:=by
 subst a;intro e b f h H j d Q i r n e q;unfold Gv at e;split at e
 ·rename_i l m
  split at e
  ·rename_i h
   cases e;obtain⟨a,j,x,o,d⟩:=Is.tup_iff.mp r;obtain⟨b,v,u,p,f⟩:=Is.tup_sq n;have r:j≠[]:=λz=>by
    have:=d.length;rw[z] at this;have n:=h.2.2.2;cases l with
    | nil=>cases n
    | cons _ _=>cases this
   refine{a,b,j,v,x,u,.of o,p,r,by rw[<-d.length,<-f.length];exact h.2.2.1,λb=>?_,λ_ p a=>q _ _ (Ah.laid a) (aY i a) (AE.tup i a (λ_ n=>n) (cg h.1 h.2.1) (d.append f))};have a:m=[]:=by
    have:=f.length;rw[b] at this;exact List.length_eq_zero_iff.mp this
   rw[a,C8] at q;exact q _ H Ah.refl i (Is.tup o (aa.ofImm h.1 d))
  ·cases e
 ·cases e
end
def Gw:D->Option As
 | .int i=>some (.inl i)
 | .str x=>some (.inr x)
 | _=>none
def Ey:List D->Option (List As)
 | []=>some []
 | d::l=>(Gw d).bind λk=>(Ey l).map λr=>k::r
def Gx:D->Option Ak
 | .int i=>some (.inl i)
 | .str x=>some (.inr x)
 | .tup l=>(Ey l).map .t
 | _=>none
def E5:List D->Option (List Ak)
 | []=>some []
 | d::l=>(Gx d).bind λk=>(E5 l).map λr=>k::r
def AG:D->Option (List Ak)
 | .tup l=>E5 l
 | _=>none
def qv(k:As):Gw (CC k)=some k:=by cases k<;>rfl
theorem ke:∀k:List As,Ey (k.map CC)=some k
 | []=>rfl
 | a::k=>by
   show (Gw (CC a)).bind (λx=>(Ey (k.map CC)).map λr=>x::r)=some (a::k);rw[qv,ke k];rfl
theorem qw:∀k:Ak,Gx (E4 k)=some k
 | .inl _=>rfl
 | .inr _=>rfl
 | .t l=>by show (Ey (l.map CC)).map Ak.t=_;rw[ke];rfl
theorem kg:∀k:List Ak,E5 (k.map E4)=some k
 | []=>rfl
 | a::k=>by
   show (Gx (E4 a)).bind (λx=>(E5 (k.map E4)).map λr=>x::r)=some (a::k);rw[qw,kg k];rfl
def cH(k:List Ak):AG (AC k)=some k:=kg k
section
variable{K:FG}{A:Addr->Prop}{H:Hp}
def qx(e:Gw d=some k)(h:Is K A H d v):v=kV k/\d=CC k:=by
 cases d with
 | int i=>cases e;exact{Is.int_iff.mp h,rfl}
 | str x=>cases e;exact{Is.str_iff.mp h,rfl}
 | _=>cases e
theorem kh:∀{l:List D} {k:List As} {b:List V},Ey l=some k->aa K A H l b->b=k.map kV/\l=k.map CC
 | [],k,b,e,h=>by cases e;exact{aa.nil.mp h,rfl}
 | d::l,k,b,e,h=>by
   unfold Ey at e;cases q1:Gw d with
   | none=>rw[q1] at e;cases e
   | some a=>
     cases q2:Ey l with
     | none=>rw[q1,q2] at e;cases e
     | some r=>
       rw[q1,q2] at e;have e:some (a::r)=some k:=e;cases e;obtain⟨v,a,f,d,c⟩:=aa.cons.mp h;obtain⟨i,e⟩:=qx q1 d;obtain⟨g,a⟩:=kh q2 c;subst f i g;exact{rfl,by rw[e,a];rfl}
def qy(e:Gx d=some k)(h:Is K A H d v):KIs H k v/\d=E4 k:=by
 cases d with
 | int i=>cases e;exact{Is.int_iff.mp h,rfl}
 | str x=>cases e;exact{Is.str_iff.mp h,rfl}
 | tup l=>
   obtain⟨b,c,a,s,i⟩:=Is.tup_iff.mp h;have e:(Ey l).map Ak.t=some k:=e;cases q:Ey l with
   | none=>rw[q] at e;cases e
   | some r=>
     rw[q] at e;cases e;obtain⟨d,c⟩:=kh q i;exact{{b,a,by rw[<-d];exact s},by rw[c];rfl}
 | _=>cases e
theorem ki:∀{l:List D} {k:List Ak} {b:List V},E5 l=some k->aa K A H l b->Paired (KIs H) k b/\l=k.map E4
 | [],k,b,e,h=>by cases e;cases aa.nil.mp h;exact{.nil,rfl}
 | d::l,k,b,e,h=>by
   unfold E5 at e;cases q1:Gx d with
   | none=>rw[q1] at e;cases e
   | some a=>
     cases q2:E5 l with
     | none=>rw[q1,q2] at e;cases e
     | some r=>
       rw[q1,q2] at e;have e:some (a::r)=some k:=e;cases e;obtain⟨v,a,f,d,c⟩:=aa.cons.mp h;obtain⟨i,e⟩:=qy q1 d;obtain⟨g,a⟩:=ki q2 c;subst f;exact{.cons i g,by rw[e,a];rfl}
def dh(e:AG d=some k)(h:Is K A H d v):∃b,v=.ref b/\Cg H b k/\d=AC k:=by
 cases d with
 | tup l=>
   obtain⟨b,a,c,s,i⟩:=Is.tup_iff.mp h;obtain⟨f,d⟩:=ki (show E5 l=some k from e) i;exact{b,c,⟨a,s,f⟩,by rw[d];rfl}
 | _=>cases e
def Ar(k:List Ak):List D->List D->Option D
 | d::ks,v::vs=>if AG d=some k then some v else Ar k ks vs
 | _,_=>none
theorem eU(k:List Ak):∀{a:List (List Ak)} {b:List D} {c:List V},a.length=c.length->aa K A H b c->
 (Ar k (a.map AC) b=none/\BY (a.zip c) k=none)\/∃d v,Ar k (a.map AC) b=some d/\BY (a.zip c) k=some v/\Is K A H d v
 | [],b,c,f,h=>.inl {by unfold Ar;cases b<;>rfl,rfl}
 | x::a,b,c,f,h=>by
   cases b with
   | nil=>rw[aa.nil.mp h] at f;cases f
   | cons d b=>
     obtain⟨v,r,e,j,i⟩:=aa.cons.mp h;subst e;have g:a.length=r.length:=by simpa using f
     by_cases e:x=k
     ·refine .inr {d,v,?_,cx (p:=(x,v)) e,j}
      show (if AG (AC x)=some k then some d else _)=some d;rw[cH,if_pos (by rw[e])]
     ·have e':¬AG (AC x)=some k:=by rw[cH];exact λz=>e (Option.some.inj z)
      have f:Ar k ((x::a).map AC) (d::b)=Ar k (a.map AC) b:=by
       show (if AG (AC x)=some k then some d else _)=_;rw[if_neg e']
      have d:BY ((x::a).zip (v::r)) k=BY (a.zip r) k:=cy (p:=(x,v)) e;rw[f,d];exact eU k g i
end
section
variable{X:Cx}{S:Type}{W:Wd S}{c:Dx W}{g ga gb:Gr}{a b:Expr}{pos:Pos}{fa fb:Fn S}
def wM:DE X c g (.Dict [] [] pos) (fC S (.dct [.non] [])):=pf.imp λY H Q ⟨Z,f,R,e,w⟩ p d=>
 w _ _ (Ah.laid d) (aY e d) (AE.val R (Is.dct_iff.mpr {p,[],rfl,{bH e d,d},aa.nil.mpr rfl,.inr {[],rfl,rfl,aw}}) g)
def Ds(neg:Bool)(k d:D):Option D:=match d with
 | .dct (.non::ks) vs=>(AG k).map λkk=>.bl (if neg then !(Ar kk ks vs).isSome else (Ar kk ks vs).isSome)
 | _=>none
def gy{A:Addr->Prop}{H:Hp}{K:FG}{k:D}{e j:List D}{f:List Ak}{m n:V}(B:AG k=some f)(E:Is K A H k m)(u:Is K A H (.dct (.non::e) j) n) :
 ∃a o,n=.ref a/\BB H a m o/\((Ar f e j=none/\o=none)\/∃d v,Ar f e j=some d/\o=some v/\Is K A H d v):=by
 obtain⟨b,F,x,_⟩:=dh B E;obtain⟨a,N,M,_,i,q⟩:=Is.dct_iff.mp u;rcases q with⟨s,p,_,_⟩ | ⟨J,G,C,y⟩
 ·cases s with
  | nil=>cases p
  | cons z r=>
    have:D.non=CC z:=(List.cons.inj p).1;cases z<;>cases this
 ·have L:e=J.map AC:=(List.cons.inj G).2
  subst L F;refine{a,_,M,BB.t y x,?_};rcases eU f C i with⟨l,h⟩ | ⟨d,v,l,h,I⟩
  ·exact .inl ⟨l,h⟩
  ·exact .inr ⟨d,v,l,h,I⟩
open H in
def gz{Y:St}{H:Hp}{Q:VK}{neg:Bool}(h:tD c g (f2 S (Ds neg) fa fb) Y H Q):(λY H Q=>tD c ga fa Y H λy H1=>tD c gb fb Y H1 λx H2=>∃a o,x=.ref a/\BB H2 a y o/\Q (.bl (if neg then !o.isSome else o.isSome)) H2) Y H Q:=by
 have m:Bg c (λy x H2 Q=>∃a o,x=.ref a/\BB H2 a y o/\Q (.bl (if neg then !o.isSome else o.isSome)) H2) (Ds neg):=by
  intro i e l f H n d Q j r l e q;unfold Ds at e;split at e
  ·rename_i f n
   cases d:AG i with
   | none=>rw[d] at e;cases e
   | some p=>
     rw[d] at e;cases e;obtain⟨a,o,s,u,i⟩:=gy d r l;refine{a,o,s,u,?_};have l:o.isSome=(Ar p f n).isSome:=by
      rcases i with⟨f,d⟩ | ⟨_,_,f,d,_⟩<;>rw[f,d]<;>rfl
     rw[l];exact q _ H Ah.refl j bJ
  ·cases e
 exact cE m h
def wN(f:X.A.units+2<cLine)(e:DE X c ga a fa)(h:DE X c gb b fb)(d:autoParam (behindInMarks .In b=false) uR):DE X c g (.Compare a [.In] [b] pos) (f2 S (Ds false) fa fb):=
 (nM (jo f e h) d).imp λY H Q q=>gz q
def wO(f:X.A.units+2<cLine)(e:DE X c ga a fa)(h:DE X c gb b fb)(d:autoParam (behindInMarks .In b=false) uR):DT X c (.Compare a [.In] [b] pos) (fB S (f2 S (Ds false) fa fb)):=
 (iQ (jo f e h) d).imp λY H Q q=>by
  have d:tB (tD c .R (f2 S (Ds false) fa fb)) Y H Q:=dU q;exact gz (ga:=ga) (gb:=gb) d
def Gy(d k:D):Option D:=match d with
 | .dct (.non::ks) vs=>(AG k).bind λkk=>im (Ar kk ks vs)
 | _=>none
open H in
def wP(u:X.A.units+2<cLine)(A:DE X c ga a fa)(i:DE X c gb b fb)(z:Ge b):DE X c g (.Subscript a b pos) (f2 S Gy fa fb):=by
 have s:Bg c (λx y H2 Q=>∃a v,x=.ref a/\BB H2 a y (some v)/\Q v H2) Gy:=by
  intro e h f j H m d Q r p l e q;unfold Gy at e;split at e
  ·rename_i j n
   cases f:AG h with
   | none=>rw[f] at e;cases e
   | some h=>
     rw[f] at e;obtain⟨e,m⟩:=df (show im (Ar h j n)=some d from e);obtain⟨a,o,x,j,n⟩:=gy f l p;rcases n with⟨d,h⟩ | ⟨d',v,d,h,f⟩
     ·rw[e] at d;cases d
     ·rw[e] at d;cases d
      subst h;exact{a,v,x,j,q v H Ah.refl r (AE.imm m f)}
  ·cases e
 exact(cD u A i z).imp λY H Q q=>cE s q
end
def AY(k:List Ak)(v:D)(ks vs:List D):List D×List D:=
 if (Ar k ks vs).isSome=true then (ks,List.zipWith (λd u=>if AG d=some k then v else u) ks vs) else (ks++[AC k],vs++[v])
section
variable{K:FG}{A:Addr->Prop}{H:Hp}
theorem kj(g:Is K A H d v):∀{kk:List (List Ak)} {b:List D} {c:List V},kk.length=c.length->aa K A H b c->
 ∃a,aa K A H (List.zipWith (λx u=>if AG x=some k then d else u) (kk.map AC) b) a/\kk.length=a.length/\(kk.zip c).map (λe=>if e.1=k then (e.1,v) else e)=kk.zip a
 | [],b,c,f,h=>{[],by simpa using aa.nil.mpr rfl,rfl,rfl}
 | x::kk,b,c,f,h=>by
   cases b with
   | nil=>rw[aa.nil.mp h] at f;cases f
   | cons e b=>
     obtain⟨u,r,o,n,m⟩:=aa.cons.mp h;subst o;obtain⟨a,j,i,l⟩:=kj g (kk:=kk) (by simpa using f) m;by_cases z:x=k
     ·refine{v::a,?_,by simp[i],?_}
      ·show aa K A H ((if AG (AC x)=some k then d else e)::_) _
       rw[cH,if_pos (by rw[z])];exact aa.cons.mpr ⟨v,a,rfl,g,j⟩
      ·show (if x=k then (x,v) else (x,u))::_=(x,v)::kk.zip a
       rw[if_pos z,<-l];rfl
     ·refine{u::a,?_,by simp[i],?_}
      ·show aa K A H ((if AG (AC x)=some k then d else e)::_) _
       rw[cH,if_neg (λq=>z (Option.some.inj q))];exact aa.cons.mpr ⟨u,a,rfl,n,j⟩
      ·show (if x=k then (x,v) else (x,u))::_=(x,u)::kk.zip a
       rw[if_neg z,<-l];rfl
def kl{k:List Ak}{d:D}{v:V}(i:Is K A H d v){c:List (List Ak)}{g:List D}{f:List V}(e:c.length=f.length)(h:aa K A H g f) :
 ∃(b:List (List Ak)) (a:List V),(AY k d (c.map AC) g).1=b.map AC/\aa K A H (AY k d (c.map AC) g).2 a/\b.length=a.length/\Bk (c.zip f) k v=b.zip a:=by
 have j:=eU k e h;unfold AY Bk;rw[dP];rcases j with⟨d,b⟩ | ⟨d',v',d,b,_⟩
 ·rw[d,b]
  refine{c++[k],f++[v],?_,?_,?_,?_}
  ·simp
  ·simpa using h.append (aa.one i)
  ·simp[e]
  ·simp[List.zip_append e]
 ·rw[d,b]
  obtain⟨a,l,j,m⟩:=kj (k:=k) i e h;exact⟨c,a,rfl,l,j,m⟩
end
theorem km(c:d.imm=true):∀{b a:List D},D.immL a=true->D.immL (List.zipWith (λx u=>if AG x=some k then d else u) b a)=true
 | [],a,_=>by simp[D.immL]
 | x::b,[],_=>by simp[D.immL]
 | x::b,v::a,h=>by
   have e:v.imm=true/\D.immL a=true:=by simpa [D.immL] using h
   show (D.imm (if AG x=some k then d else v)&&D.immL _)=true;rw[km c e.2];by_cases z:AG x=some k
   ·rw[if_pos z,c];rfl
   ·rw[if_neg z,e.1];rfl
def gA(a:d.imm=true)(h:D.immL b=true):D.immL (AY k d ks b).2=true:=by
 unfold AY;split
 ·exact km a h
 ·exact cg h (by simp[D.immL,a])
section
variable{X:Cx}{S:Type}{W:Wd S}{c:Dx W}{g ga gb:Gr}{a b:Expr}{fk fv:Fn S}{i:Nat}
def BL(Z:Ag)(i:Nat):Option (List D×List D):=match Z[i]? with
 | some (.own (.dct (.non::ks) vs))=>if D.immL vs=true then some (ks,vs) else none
 | _=>none
def kn(h:BL Z i=some (e,d)):Z[i]?=some (.own (.dct (.non::e) d))/\D.immL d=true:=by
 unfold BL at h;split at h
 ·split at h
  ·cases h;exact{by assumption,by assumption}
  ·cases h
 ·cases h
def Jt(S:Type)(i:Nat)(fk fv:Fn S):Ay S:=λZ st=>(fv Z st).bind λv st1=>match BL Z i with
 | some (ks,vs)=>(fk Z st1).bind λk st2=>match AG k with
   | some kk=>if v.imm=true/\ks.length<sizeLine then .ok (.nx (Z.set i (.own (.dct (.non::(AY kk v ks vs).1) (AY kk v ks vs).2)))) st2 else .bad
   | none=>.bad
 | none=>.bad
def wQ{x:Str}{k e:Expr}{P T pos:Pos}(hu:X.A.units+2<cLine)(hx:PE X (.Name x P) (BA i))(hk:DE X c ga k fk)(hv:DE X c gb e fv)(hs:autoParam (swapsWith e (some (.Subscript (.Name x P) k T)) pos.line X.env=pure false) uR) :
 DS X c (.Assign [.Subscript (.Name x P) k T] e pos) (Jt S i fk fv):=
 (jp hu hx hk hv hs).imp λD Y H q=>by
  refine bi (cF (g:=gb) (k:=λv Z f=>match BL Z i with
   | some (p,B)=>(fk Z f).bind λk h=>match AG k with
     | some n=>if v.imm=true/\p.length<sizeLine then .ok (.nx (Z.set i (.own (.dct (.non::(AY n v p B).1) (AY n v p B).2)))) h else .bad
     | none=>.bad
   | none=>.bad) q) λv H1 hh=>?_
  obtain⟨Z,d,st0,f,R,ok,N,l,e1,z,w⟩:=hh;cases O:BL Z i with
  | none=>simp only[O] at w;exact(show False from w).elim
  | some kv=>
    obtain⟨p,B⟩:=kv;simp only[O] at w;obtain⟨M,im⟩:=kn O;obtain⟨ad,ea,nn,f0,us0,_⟩:=N.slot i _ M;refine{.ref ad,bC ea,Z,f,N,l,ak (ae.mp w) (λdk h q2 vk H2 C m zk=>?_) λx h q2 H2 C m=>q2 H2 ((e1.trans C).f0 R) m};cases j:AG dk with
    | none=>simp only[j] at q2;exact(show False from q2).elim
    | some n=>
      simp only[j] at q2;by_cases J:d.imm=true/\p.length<sizeLine
      ·rw[if_pos J] at q2
       have R2:=N.ext l C;obtain⟨E,G,nn',f0',us,iu,hq⟩:=R2.slot i _ M;have:E=ad:=by
        have:=(bC G).symm.trans (bC ea);cases this;rfl
       subst this;obtain⟨bk,L,Q,_⟩:=dh j (show Is c.K 'w' H2 dk vk from zk.toR);have zv:Is c.K (Av c Y Z) H2 d v:=Is.ofImm J.1 (z.toR.ext C l);rcases hq with⟨k1,x1,_,_⟩ | ⟨I,x2,el,U⟩
       ·cases k1 with
        | nil=>cases x1
        | cons y r=>
          have:L2.D.non=CC y:=(List.cons.inj x1).1;cases y<;>cases this
       ·have e3:p=I.map AC:=(List.cons.inj x2).2
        subst e3;obtain⟨F,s,g1,g2,g3,g4⟩:=kl (k:=n) zv el iu;have hz:(I.zip us).length<sizeLine:=by
         rw[List.length_zip,<-el,Nat.min_self];have:=J.2;rw[Ai] at this;exact this
        have dp:=EG.t (v:=v) U Q hz;rw[g4] at dp;subst L;refine{E,_,rfl,dp,?_};obtain⟨R3,F3⟩:=R2.wr (d':=.dct (.non::(AY n d (I.map AC) B).1) (AY n d (I.map AC) B).2) (o:=.dT (F.zip s)) M (bC G) {(λu z=>by cases z),(λob u z=>by cases z)}
         λkt=>{s,g2.mono kt,.inr {F,by rw[g1],g3,aw}}
        exact q2 Y _ ((e1.trans C).frm.trans F3) (bv m nn.1 U) R3
      ·rw[if_neg J] at q2;exact(show False from q2).elim
end
section
variable{X:Cx}{S:Type}{W:Wd S}{c:Dx W}{g ga gb:Gr}
def Hb(K:FG):R2:=λx y H Q=>∃a b ys,x=.ref a/\y=.ref b/\AN K H a []/\AN K H b ys/\Q (.ref b) H
def qz:AU X (binaryOp .Add) (Hb X.K):=by
 intro a s Y H x y v u Q I e f h;obtain⟨a,b,d,rfl,rfl,j,i,q⟩:=h;cases e;cases f;obtain⟨d,r1,s,_⟩:=I.tuple j;obtain⟨f,r2,p,_⟩:=I.tuple i;cases r1;obtain⟨⟨e,u,d,r⟩,m,o,n,l⟩:=id s;obtain⟨⟨d,i,data2,j⟩,h,e,s,d⟩:=id p;simp only at o l e d;subst o l e d;exact concat_meets {_,m,rfl} {_,h,rfl} noFill_tuple_add seq_tuple_add PySem.F.slot_tuple_add PySem.F.entry_tuple_add (PySem.F.args_tuple_add_2 _ _) (tuple_addW0 a b _ f.toArray n s u i r j rfl) {m,h,{.ref b,H,I,rfl,q}}
def Hc:D->D->Option D
 | .tup [],.tup m=>if D.immL m=true then some (.tup m) else none
 | _,_=>none
open H in
def qA{K:FG}:Bg c (Hb K) Hc:=by
 intro b a e h H i d Q l j f e q;unfold Hc at e;split at e
 ·rename_i m
  split at e
  ·rename_i im
   cases e;obtain⟨a,b,p,h,n⟩:=Is.tup_iff.mp j;obtain⟨b,o,d,i,r⟩:=Is.tup_iff.mp f;rw[aa.nil.mp n] at h;refine{a,b,o,p,d,.of h,.of i,?_};rw[<-d];exact q _ H Ah.refl l (Is.ofImm (by show D.immL m=true;exact im) f)
  ·cases e
 ·cases e
def Ju(S:Type)(i:Nat)(fk fv:Fn S):Ay S:=λZ st=>(fv Z st).bind λv st1=>match AF Z i with
 | some l=>(fk Z st1).bind λk st2=>match k with
   | .int j=>match B3 l.length j with
     | some n=>if v.imm=true then .ok (.nx (Z.set i (.own (.lst (l.set n v))))) st2 else .bad
     | none=>.bad
   | _=>.bad
 | none=>.bad
def wR{x:Str}{i:Nat}(a:PE X (.Name x p1) (BA i))(e:DE X c ga k fk)(d:DE X c gb value fv)(h:∀{b a:TE},PE X k b->PE X value a->PS X (.Assign [.Subscript (.Name x p1) k p2] value pos) (Ft a (EX (BA i) b EY))):DS X c (.Assign [.Subscript (.Name x p1) k p2] value pos) (Ju S i fk fv):=
 (h e d).imp λD Y H q=>by
  refine bi (cF (g:=gb) (k:=λv Z a=>match AF Z i with
   | some l=>(fk Z a).bind λk b=>match k with
     | .int j=>match B3 l.length j with
       | some n=>if v.imm=true then .ok (.nx (Z.set i (.own (.lst (l.set n v))))) b else .bad
       | none=>.bad
     | _=>.bad
   | none=>.bad) q) λv H1 h=>?_
  obtain⟨Z,d,f,a,R,m,r,e,A,z,w⟩:=h;cases m:AF Z i with
  | none=>simp only[m] at w;exact(show False from w).elim
  | some l=>
    simp only[m] at w;obtain⟨q,p,B,C,E,y⟩:=r.lstAt m;refine{.ref q,B,Z,a,r,e,ak (ae.mp w) (λs b q2 a H2 f h i=>?_) λx b q2 H2 f h=>q2 H2 ((A.trans f).f0 R) h};cases s with
    | int j=>
      have x:a=.int j:=Is.int_iff.mp (show Is c.K 'w' H2 (.int j) a from i.toR);cases u:B3 l.length j with
      | none=>simp only[u] at q2;exact(show False from q2).elim
      | some n=>
        simp only[u] at q2;by_cases s:d.imm=true
        ·rw[if_pos s] at q2
         have R2:=r.ext e f;have i:=f q _ C y;have r:aa c.K (Av c Y Z) H2 l p:=E.mono (f.keepT e λb a=>⟨a.1,a⟩);have C:Is c.K (Av c Y Z) H2 d v:=Is.ofImm s (z.toR.ext f e);refine{q,p,j,n,rfl,x,i,by rw[<-r.length];exact u,?_};obtain⟨b,a⟩:=R2.wr (d':=.lst (l.set n d)) (o:=.lst (p.set n v)) (bK m) B {(λu z=>by cases z),(λd u z=>by cases z)} λd=>{_,aw,(r.set n C).mono d}
         exact q2 Y _ ((A.trans f).frm.trans a) (bv h y i) b
        ·rw[if_neg s] at q2;exact(show False from q2).elim
    | _=>exact(show False from q2).elim
end
end L2
namespace PySem
structure CN(prog:Program)(w:World)(it l:Addr)(xs:List Value)(P:Nat->Heap->Prop):Prop where
 keep:∀k h h',P k h->(∀b o,b=it\/b=l->h.get? b=some o->h'.get? b=some o)->P k h'
 item:∀(A:Around) (E:Value->Shared->Prop) (s:Shared) (k:Nat) (x:Value) (Q:Value->Shared->Prop),P k s.heap->xs[k]?=some x->
  (∀h',P (k+1) h'->Heap.SameBut it s.heap h'->Q x { s with heap:=h' })->wpAny 'r' A (Builtin.SmallTypes.nextOf (.ref it)) Q E s
 stop:∀(A:Around) (E:Value->Shared->Prop) (s:Shared) (k:Nat) (Q:Value->Shared->Prop),A.handled=none->P k s.heap->xs[k]?=none->
  (∀h' e,Heap.ExtBut it s.heap h'->(∃o,h'.get? e=some o/\o.cls=.type "StopIteration")->E (.ref e) { s with heap:=h' })->wpAny 'r' A (Builtin.SmallTypes.nextOf (.ref it)) Q E s
section
variable{prog:Program}{w:World}{it l:Addr}{xs:List Value}
def CN.tup(c:it≠l):CN prog w it l xs (λk h=>h.IsTupleIter it l k/\h.IsTuple l xs.toArray) where
 keep:=λk h f ⟨a,b⟩ q=>{a.at λo e=>q it o (.inl rfl) e,by
  obtain⟨o,d,r⟩:=b;exact{o,q l o (.inr rfl) d,r}}
 item:=λA E s k x Q ⟨a,b⟩ e h=>jS a b (by simpa using e) λf i g=>h f {i,by
  obtain⟨o,d,r⟩:=b;exact{o,g.extBut l o c.symm d,r}} g
 stop:=λA E s k Q d ⟨a,b⟩ e c=>jT d a b (by simpa using e) c
def CN.lst(c:it≠l):CN prog w it l xs (λk h=>h.IsListIter it l k/\h.IsList l xs.toArray) where
 keep:=λk h f ⟨a,b⟩ q=>{a.at λo e=>q it o (.inl rfl) e,b.at λo e=>q l o (.inr rfl) e}
 item:=λA E s k x Q ⟨a,b⟩ d g=>wpAny_nextOf_list_item a b (by simpa using d) λf h e=>g f {h,b.extBut e.extBut c.symm} e
 stop:=λA E s k Q e ⟨a,b⟩ d c=>wpAny_nextOf_list_end e a b (by simpa using d) c
end
section
variable{prog:Program}{w:World}{A:Around}{E:Value->Shared->Prop}{s:Shared}{z TI TO i1 i2 l1 l2:Addr}{xs ys:List Value}{P1 P2:Nat->Heap->Prop}{k:Nat}{x y a b:Value}
structure ZAp(z TI TO i1 i2 l1 l2:Addr):Prop where
 zTI:z≠TI
 zTO:z≠TO
 z1:z≠i1
 z2:z≠i2
 io:TI≠TO
 I1:TI≠i1
 I2:TI≠i2
 O1:TO≠i1
 O2:TO≠i2
 ii:i1≠i2
 lz1:l1≠z
 lo1:l1≠TO
 li1:l1≠i2
 lz2:l2≠z
 lo2:l2≠TO
 li2:l2≠i1
def CN.ext(W:CN prog w it l xs P){k:Nat}(p:P k h)(e:Heap.ExtBut c h h')(d:it≠c)(f:l≠c):P k h':=
 W.keep k h h' p λb o c q=>by
  rcases c with r | r
  ·subst r;exact e _ o d q
  ·subst r;exact e _ o f q
def qB{Q:Value->Shared->Prop}(l:CN prog w i1 l1 xs P1)(m:CN prog w i2 l2 ys P2)(D:ZAp z TI TO i1 i2 l1 l2)(e:IsZip s.heap z TI TO .none)(f:IsPair s.heap TI (.ref i1) (.ref i2))(h:IsPair s.heap TO a b)(g:P1 k s.heap)(n:P2 k s.heap)(j:xs[k]?=some x)(p:ys[k]?=some y)(C:∀d,IsZip d z TI TO (rawInt s.heap.objs.size)->IsPair d TO x y->P1 (k+1) d->P2 (k+1) d->IsPair d s.heap.objs.size x y->d.objs.size=s.heap.objs.size+1->
  (∀c o,c∉[z,TO,i1,i2]->s.heap.get? c=some o->d.get? c=some o)->Q (.ref s.heap.objs.size) { s with heap:=d }) :
 wpAny 'r' A (Builtin.«zip.__next__» {[.ref z],[]}) (λfin s'=>∃v,fin=.done (.ret v)/\Q v s') E s:=by
 show wpAny 'r' A (field (.ref z) 2 >>= λ_=>_) _ _ s;refine Ac (B0 e rfl (x:=.bool false) rfl ?_);show wpAny 'r' A (field (.ref z) 3 >>= λ_=>_) _ _ s;refine Ac (B0 e rfl (x:=.ref TI) rfl (Ac (Ef f rfl ?_)));show wpAny 'r' A (Builtin.SmallTypes.ownedTupleIsFree (.ref z) >>= λ_=>_) _ _ s;refine Ac ?_;unfold Builtin.SmallTypes.ownedTupleIsFree;refine Ac (B0 e rfl (x:=.none) rfl (Aj ?_));rw[if_pos rfl];refine Ac (bc (Ac (B0 e rfl (x:=.ref TO) rfl (Ac (Ed e 'd' λd q f=>?_)))));have q:IsZip d z TI TO .ellipsis:=q;have f:Heap.SameBut z s.heap d:=f;refine Ac ?_;simp only[List.zipIdx_cons,List.zipIdx_nil,List.forIn_cons,List.forIn_nil];refine Ac (Ac (wpAny_onRaise ?_));show wpAny 'r' _ (Builtin.SmallTypes.nextOf (.ref i1) >>= λ_=>_) _ _ _;refine Ac (l.item _ _ _ k x _ (l.ext g f.extBut D.z1.symm D.lz1) j λi q1 g=>Aj ?_);have g:Heap.SameBut i1 d i:=g;have j:IsPair i TO a b:=g.extBut _ _ D.O1 (f.extBut _ _ D.zTO.symm h);refine Ac (Ef j rfl (Ac (wpAny_updateSeq_pair j λd e h=>?_)));have e:IsPair d TO x b:=e;have h:Heap.SameBut TO i d:=h;refine Ac (wpAny_letGo (Aj (Ac (Ac (wpAny_onRaise ?_)))));show wpAny 'r' _ (Builtin.SmallTypes.nextOf (.ref i2) >>= λ_=>_) _ _ _;have i:P2 k d:=m.ext (m.ext (m.ext n f.extBut D.z2.symm D.lz2) g.extBut D.ii.symm D.li2) h.extBut D.O2.symm D.lo2;refine Ac (m.item _ _ _ k y _ i p λn q2 j=>Aj ?_);have j:Heap.SameBut i2 d n:=j;have t4:IsPair n TO x b:=j.extBut _ _ D.O2 e;refine Ac (Ef t4 rfl (Ac (wpAny_updateSeq_pair t4 λd p i=>?_)));have p:IsPair d TO x y:=p;have i:Heap.SameBut TO n d:=i;refine Ac (wpAny_letGo (Aj (Aj (Ac (Ef p rfl (Ac (wpAny_newTuple ?_)))))));have G:d.objs.size=s.heap.objs.size:=by rw[i.1,j.1,h.1,g.1,f.1]
 have F:∀c o,c∉[z,TO,i1,i2]->s.heap.get? c=some o->d.get? c=some o:=λc o n e=>by
  simp only[AL,BW,or_false,not_or] at n;exact i.extBut _ _ n.2.1 (j.extBut _ _ n.2.2.2 (h.extBut _ _ n.2.1 (g.extBut _ _ n.2.2.1 (f.extBut _ _ n.1 e))))
 have f:IsZip d z TI TO .ellipsis:=i.extBut _ _ D.zTO (j.extBut _ _ D.z2 (h.extBut _ _ D.zTO (g.extBut _ _ D.z1 q)));have r1:P1 (k+1) d:=l.ext (l.ext (l.ext q1 h.extBut D.O1.symm D.lo1) j.extBut D.ii D.li1) i.extBut D.O1.symm D.lo1;have r2:P2 (k+1) d:=m.ext q2 i.extBut D.O2.symm D.lo2;show wpAny 'r' A (Builtin.SmallTypes.ownedTupleHandOut (.ref z) (.ref d.objs.size) >>= λ_=>_) _ _ _;refine Ac ?_;unfold Builtin.SmallTypes.ownedTupleHandOut;have g:IsZip (d.push { cls:=.type "tuple",data:=.seq #[x,y] }) z TI TO .ellipsis:=AH _ f;have u:z<d.objs.size:=Heap.lt_size f;have B:(d.push { cls:=.type "tuple",data:=.seq #[x,y] }).get? d.objs.size=some { cls:=.type "tuple",data:=.seq #[x,y] }:=AZ _ rfl;refine Ac (Ed g 'd' λq j h=>?_);have j:IsZip q z TI TO (rawInt d.objs.size):=j;have h:Heap.SameBut z (d.push { cls:=.type "tuple",data:=.seq #[x,y] }) q:=h;refine Ed j 'd' λf i g=>Aj {_,rfl,?_}
 have i:IsZip f z TI TO (rawInt d.objs.size):=i;have g:Heap.SameBut z q f:=g;have j:∀c o,c≠z->d.get? c=some o->f.get? c=some o:=λc o n e=>g.extBut _ _ n (h.extBut _ _ n (AH _ e))
 have q:Heap.ExtBut z d f:=λc o n e=>j c o n e
 have v:IsPair f d.objs.size x y:=g.extBut _ _ (Nat.ne_of_gt u) (h.extBut _ _ (Nat.ne_of_gt u) B);have r:f.objs.size=d.objs.size+1:=by rw[g.1,h.1,DV]
 show Q (.ref d.objs.size) _;rw[G] at i v r ⊢;exact C f i (j _ _ D.zTO.symm p) (l.ext r1 q D.z1.symm D.lz1) (m.ext r2 q D.z2.symm D.lz2) v r λc o n e=>j c o (λh=>n (by simp[h])) (F c o n e)
def qC(O:A.handled=none)(F:CN prog w i1 l1 xs P1)(v:CN prog w i2 l2 ys P2)(D:ZAp z TI TO i1 i2 l1 l2)(d:IsZip s.heap z TI TO .none)(f:IsPair s.heap TI (.ref i1) (.ref i2))(G:IsPair s.heap TO a b)(j:P1 k s.heap)(P:P2 k s.heap)(i:xs[k]?=none\/ys[k]?=none)(M:∀g e,(∀c o,c∉[z,TO,i1,i2]->s.heap.get? c=some o->g.get? c=some o)->(∃o,g.get? e=some o/\o.cls=.type "StopIteration")->E (.ref e) { s with heap:=g }) :
 wpAny 'r' A (Builtin.«zip.__next__» {[.ref z],[]}) Q E s:=by
 have N:∀{h:Heap} {e:Addr} {g:Value} {o:Obj},IsZip h z TI TO g->h.get? e=some o->o.cls=.type "StopIteration"->e≠z:=λ{h e g o} q1 q2 q3 l=>by
  subst l;rw[q1] at q2;cases q2;simp at q3
 show wpAny 'r' A (field (.ref z) 2 >>= λ_=>_) _ _ s;refine Ac (B0 d rfl (x:=.bool false) rfl ?_);show wpAny 'r' A (field (.ref z) 3 >>= λ_=>_) _ _ s;refine Ac (B0 d rfl (x:=.ref TI) rfl (Ac (Ef f rfl ?_)));show wpAny 'r' A (Builtin.SmallTypes.ownedTupleIsFree (.ref z) >>= λ_=>_) _ _ s;refine Ac ?_;unfold Builtin.SmallTypes.ownedTupleIsFree;refine Ac (B0 d rfl (x:=.none) rfl (Aj ?_));rw[if_pos rfl];refine Ac (bc (Ac (B0 d rfl (x:=.ref TO) rfl (Ac (Ed d 'd' λu r g=>?_)))));have r:IsZip u z TI TO .ellipsis:=r;have g:Heap.SameBut z s.heap u:=g;refine Ac ?_;simp only[List.zipIdx_cons,List.zipIdx_nil,List.forIn_cons,List.forIn_nil];refine Ac (Ac (wpAny_onRaise ?_));show wpAny 'r' _ (Builtin.SmallTypes.nextOf (.ref i1) >>= λ_=>_) _ _ _;have p:P1 k u:=F.ext j g.extBut D.z1.symm D.lz1;cases I:xs[k]? with
 | none=>
   refine Ac (F.stop _ _ _ k _ O p I λj e d J=>?_);obtain⟨C,m,l⟩:=J;have L:IsZip j z TI TO .ellipsis:=d _ _ D.z1 r;refine Ed L 'd' λB _ f=>M B e (λc o n q=>?_) {C,f.extBut _ _ (N L m l) m,l}
   simp only[AL,BW,or_false,not_or] at n;exact f.extBut _ _ n.1 (d _ _ n.2.2.1 (g.extBut _ _ n.1 q))
 | some x=>
   have L:ys[k]?=none:=by
    rcases i with h | h
    ·rw[I] at h;cases h
    ·exact h
   refine Ac (F.item _ _ _ k x _ p I λj q1 d=>Aj ?_);have d:Heap.SameBut i1 u j:=d;have h:IsPair j TO a b:=d.extBut _ _ D.O1 (g.extBut _ _ D.zTO.symm G);refine Ac (Ef h rfl (Ac (wpAny_updateSeq_pair h λB i f=>?_)));have f:Heap.SameBut TO j B:=f;refine Ac (wpAny_letGo (Aj (Ac (Ac (wpAny_onRaise ?_)))));show wpAny 'r' _ (Builtin.SmallTypes.nextOf (.ref i2) >>= λ_=>_) _ _ _;have h:P2 k B:=v.ext (v.ext (v.ext P g.extBut D.z2.symm D.lz2) d.extBut D.ii.symm D.li2) f.extBut D.O2.symm D.lo2;refine Ac (v.stop _ _ _ k _ O h L λi e j J=>?_);obtain⟨C,m,l⟩:=J;have h:IsZip i z TI TO .ellipsis:=j _ _ D.z2 (f.extBut _ _ D.zTO (d.extBut _ _ D.z1 r));refine Ed h 'd' λp _ i=>M p e (λc o n q=>?_) {C,i.extBut _ _ (N h m l) m,l}
   simp only[AL,BW,or_false,not_or] at n;exact i.extBut _ _ n.1 (j _ _ n.2.2.2 (f.extBut _ _ n.2.1 (d.extBut _ _ n.2.2.1 (g.extBut _ _ n.1 q))))
end
instance zO(nm:String)(l:Addr):Obj:={ cls:=.type nm,data:=.fields #[.ref l,.int 0 0] }
end PySem
namespace L2
instance Izp(Sq:Hp->List V->List V->Prop):It:=
 {λi H=>∃xs ys x y,Sq H xs ys/\xs[i]?=some x/\ys[i]?=some y,λi H v H'=>∃p x y,H p=none/\v=.ref p/\H'=Af H p (.tup [x,y])/\∀xs ys,Sq H xs ys->xs[i]?=some x/\ys[i]?=some y,λi H=>∃xs ys,Sq H xs ys/\(xs.length<=i\/ys.length<=i)}
structure ZW(P:Program)(w:World)(K:FG)(l1 l2 i1 i2:Addr)(Sq:Hp->List V->List V->Prop)(T1 T2:Nat->Heap->Prop):Prop where
 obj:∀k h,(T1 k h->∃o,h.get? i1=some o/\∀v,o.data≠.cell v)/\(T2 k h->∃o,h.get? i2=some o/\∀v,o.data≠.cell v)
 keep:∀k h h',(T1 k h->(∀o,h.get? i1=some o->h'.get? i1=some o)->T1 k h')/\(T2 k h->(∀o,h.get? i2=some o->h'.get? i2=some o)->T2 k h')
 there:∀H xs ys,Sq H xs ys->H l1≠none/\H l2≠none
 vals:∀(X:Cx),X.K=K->∀A0 Y H s xs ys,Ad X A0 Y H s->Sq H xs ys->i1≠l1->i2≠l2->∃us vs,Ao xs us/\Ao ys vs/\(∀xs' ys',Sq H xs' ys'->xs'=xs/\ys'=ys)/\∃P1 P2:Nat->Heap->Prop,CN P w i1 l1 us P1/\CN P w i2 l2 vs P2/\
  (∀k,T1 k s.heap->P1 k s.heap)/\(∀k,T2 k s.heap->P2 k s.heap)/\∀k h,(P1 k h->T1 k h)/\(P2 k h->T2 k h)
def nd5(h:[a,b,c,d,e].Nodup):(a≠b/\a≠c/\a≠d/\a≠e)/\(b≠c/\b≠d/\b≠e)/\(c≠d/\c≠e)/\d≠e:=by
 simpa only[Dk,AL,BW,or_false,not_or,List.nodup_nil,and_true,not_false_eq_true] using h
def qD(h:x∈[a,b,c,d,e]):x=a\/x=b\/x=c\/x=d\/x=e:=by
 simpa only[AL,BW,or_false] using h
def nm5(h:x∉[a,b,c,d,e]):x≠a/\x∉[a,c,d,e]:=by
 simp only[AL,BW,or_false,not_or] at h ⊢;exact⟨h.1,h.1,h.2.2⟩
def nm4(e:x≠a)(f:x≠b)(h:x≠c)(g:x≠d):x∉[a,b,c,d]:=by
 simp only[AL,BW,or_false,not_or];exact⟨e,f,h,g⟩
def qF(h:x∈[a,c,d,e]):x∈[a,b,c,d,e]:=by
 simp only[AL,BW,or_false] at h ⊢;rcases h with r | r | r | r
 ·exact .inl r
 ·exact .inr (.inr (.inl r))
 ·exact .inr (.inr (.inr (.inl r)))
 ·exact .inr (.inr (.inr (.inr r)))
section
variable{a b c d e:Addr}
def in1:a∈[a,b,c,d,e]:=.head _
def in2:b∈[a,b,c,d,e]:=.tail _ (.head _)
def in3:c∈[a,b,c,d,e]:=.tail _ (.tail _ (.head _))
def in4:d∈[a,b,c,d,e]:=.tail _ (.tail _ (.tail _ (.head _)))
def in5:e∈[a,b,c,d,e]:=.tail _ (.tail _ (.tail _ (.tail _ (.head _))))
def ko{P:Addr->Prop}(h:P a)(f:P b)(g:P c)(h:P d)(f:P e){x:Addr}(h:x∈[a,b,c,d,e]):P x:=by
 rcases qD h with rfl | rfl | rfl | rfl | rfl<;>assumption
def nf{u:Array Value}(v:Option Value)(e:Data.fields u=.cell v):False:=Data.noConfusion e
def ns{u:Array Value}{n:Nat}(v:Option Value)(e:Data.seq u n=.cell v):False:=Data.noConfusion e
def zap{h i:Addr}(f:[a,b,c,d,e].Nodup)(g:∀x∈[a,b,c,d,e],h≠x/\i≠x):ZAp a b c d e h i:=
 have f:=nd5 f
 {f.1.1,f.1.2.1,f.1.2.2.1,f.1.2.2.2,f.2.1.1,f.2.1.2.1,f.2.1.2.2,f.2.2.1.1,f.2.2.1.2,f.2.2.2,(g a in1).1,(g c in3).1,(g e in5).1,(g a in1).2,(g c in3).2,(g d in4).2}
end
open H in
def kq{P:Program}{w:World}{K:FG}{a:List Expr}{x1}{pos:Pos}{l1 l2 z TI TO n m:Addr}{f:Hp->List V->List V->Prop}{e c:Nat->Heap->Prop}(d:ZW P w K l1 l2 n m f e c)(nd:[z,TI,TO,n,m].Nodup):Ev P w K (.Tuple a x1 pos) (Izp f) [z,TI,TO,n,m] z (λi h=>IsZip h z TI TO .none/\IsPair h TI (.ref n) (.ref m)/\(∃a b,IsPair h TO a b)/\e i h/\c i h) where
 mem:=in1
 obj:=λi h r b f=>by
  obtain⟨g,l,⟨_,_,B⟩,L,G⟩:=r;exact ko (P:=λb=>∃o,h.get? b=some o/\∀v,o.data≠.cell v) {_,g,nf} {_,l,ns} {_,B,ns} ((d.obj i h).1 L) ((d.obj i h).2 G) f
 keep:=λi h j r q=>by
  obtain⟨g,l,⟨a,b,B⟩,L,G⟩:=r;exact{q _ in1 _ g,q _ in2 _ l,{a,b,q _ in3 _ B},(d.keep i h j).1 L (q _ in4),(d.keep i h j).2 G (q _ in5)}
 item:=by
  intro X hP hw hK hc i A0 s Y H E I J r hg;subst hP hw;obtain⟨R,W,x,y,U,C,hy⟩:=hg;obtain⟨g,l,⟨a,b,B⟩,L,G⟩:=r;obtain⟨n1,n2⟩:=d.there H R W U;have N:∀c∈[z,TI,TO,n,m],l1≠c/\l2≠c:=λc f=>{λe=>n1 ((congrArg H e).trans (J c f).1),λe=>n2 ((congrArg H e).trans (J c f).1)}
  obtain⟨us,vs,ru,rv,inj,P1,P2,W1,W2,p1,p2,pt⟩:=d.vals X hK A0 Y H s R W I U (N n in4).1.symm (N m in5).2.symm;obtain⟨u,A,rx⟩:=ru.get C;obtain⟨v,O,ry⟩:=rv.get hy;have D:=zap nd N;have Q:s.TypeIs (.ref z) "zip":={_,g,rfl};unfold pyNext;refine Ac (wpAny_attempt (wpAny_callSpecial?_slot (name:=Str.ofString "__next__") Q F.slot_zip_next (C3 F.slot_zip_next Q F.entry_zip_next (qB W1 W2 D g l B (p1 i L) (p2 i G) A O λj M a2 a3 a4 a5 A Z=>Aj ?_) (F.args_zip_next_1 _))));refine{_,rfl,wpAny_letOwnedTupleGo_zip (s:={ s with heap:=j }) M λO zz A=>?_};have A:Heap.SameBut z j O:=A;have M:∀{c:Addr} {o:Obj},s.heap.get? c=some o->c≠s.heap.objs.size:=λe=>Bf (Heap.lt_size e)
  have k2:∀b o,b∉[z,TI,TO,n,m]->s.heap.get? b=some o->O.get? b=some o:=λb o f q=>by
   exact A.extBut b o (nm5 f).1 (Z b o (nm5 f).2 q)
  have kTI:O.get? TI=_:=A.extBut TI _ D.zTI.symm (Z TI _ (nm4 D.zTI.symm D.io D.I1 D.I2) l);have tt:IsTup O s.heap.objs.size [u,v].toArray/\NoD O s.heap.objs.size:={{_,A.extBut _ _ (M g).symm a5,rfl,_,rfl},{_,A.extBut _ _ (M g).symm a5,rfl}};refine{.ref s.heap.objs.size,_,I.turnedT (t':=s.toks) (p:=s.heap.objs.size) (vs:=[x,y]) J k2 (Al _) (.cons rx (.cons ry .nil)) (by show 2<=sizeLine;decide) tt.1 tt.2,rfl,{_,x,y,I.hok.fresh (Al _),rfl,rfl,λu v x=>by
   obtain⟨y,e2⟩:=inj u v x;rw[y,e2];exact⟨C,hy⟩},{zz,kTI,{_,_,A.extBut _ _ D.zTO.symm a2},(d.keep (i+1) j O).1 ((pt (i+1) j).1 a3) λo e=>A.extBut _ o D.z1.symm e,(d.keep (i+1) j O).2 ((pt (i+1) j).2 a4) λo e=>A.extBut _ o D.z2.symm e},λb f=>?_}
  have nb:b≠s.heap.objs.size:=ko (P:=λb=>b≠s.heap.objs.size) (M g) (M l) (M B)
   (let ⟨_,e,_⟩:=(d.obj i s.heap).1 L;M e) (let ⟨_,e,_⟩:=(d.obj i s.heap).2 G;M e) f
  rw[aj nb];exact(J b f).1
 done:=by
  intro X hP hw hK hc i A0 s Y H E I J r hg;subst hP hw;obtain⟨R,W,U,C⟩:=hg;obtain⟨g,l,⟨a,b,B⟩,L,G⟩:=r;obtain⟨n1,n2⟩:=d.there H R W U;have N:∀c∈[z,TI,TO,n,m],l1≠c/\l2≠c:=λc f=>{λe=>n1 ((congrArg H e).trans (J c f).1),λe=>n2 ((congrArg H e).trans (J c f).1)}
  obtain⟨us,vs,ru,rv,inj,P1,P2,W1,W2,p1,p2,pt⟩:=d.vals X hK A0 Y H s R W I U (N n in4).1.symm (N m in5).2.symm;have D:=zap nd N;have Q:s.TypeIs (.ref z) "zip":={_,g,rfl};have a:us[i]?=none\/vs[i]?=none:=by
   rcases C with C | C
   ·exact .inl (List.getElem?_eq_none (by rw[<-ru.length];exact C))
   ·exact .inr (List.getElem?_eq_none (by rw[<-rv.length];exact C))
  unfold pyNext;refine Ac (wpAny_attempt (wpAny_callSpecial?_slot (name:=Str.ofString "__next__") Q F.slot_zip_next (C3 F.slot_zip_next Q F.entry_zip_next (qC (I.ok.hd hc) W1 W2 D g l B (p1 i L) (p2 i G) a λj e Z d=>?_) (F.args_zip_next_1 _))));obtain⟨o,c,a⟩:=d;refine Ac (wpAny_isInstance (T:="StopIteration") (b:=true) ⟨o,c,a⟩ isSubtype_stop (Aj {rfl,I.turnedF J λb o f q=>Z b o (λn=>f (qF n)) q}))
 self:=λ_ _ _ _ _ r h=>wpAny_pyIter_zip r.1 h
def H9(a b:Addr):Hp->List V->List V->Prop:=λH xs ys=>H a=some (.tup xs)/\H b=some (.tup ys)
def qG{P:Program}{w:World}{K:FG}{a b d c:Addr}:ZW P w K a b d c (H9 a b) (λk h=>h.IsTupleIter d a k) (λk h=>h.IsTupleIter c b k) where
 obj:=λk h=>{λ⟨o,a,c,d⟩=>{o,a,λv z=>by rw[d] at z;cases z},λ⟨o,a,c,d⟩=>{o,a,λv z=>by rw[d] at z;cases z}}
 keep:=λk h b=>{λa q=>a.at q,λa q=>a.at q}
 there:=λH b a q=>{(λz=>by rw[q.1] at z;cases z),(λz=>by rw[q.2] at z;cases z)}
 vals:=λX d c Y H s b a I q l m=>by
  obtain⟨f,g,e,_⟩:=I.tuple (AN.of q.1);obtain⟨c,j,i,_⟩:=I.tuple (AN.of q.2);exact{f,c,g,j,λb d a=>{I.tuple_inj (AN.of a.1) (AN.of q.1),I.tuple_inj (AN.of a.2) (AN.of q.2)},_,_,CN.tup l,CN.tup m,λk z=>⟨z,e⟩,λk z=>⟨z,i⟩,λk h=>{λz=>z.1,λz=>z.1}}
section
variable{X:Cx}{elts:List Expr}{x1:Nat}{tpos:Pos}
def qH(n:Nat):[n+4,n+2,n+3,n,n+1].Nodup:=by
 simp only[Dk,AL,BW,or_false,not_or,List.nodup_nil,and_true,not_false_eq_true];omega
def kr{b n:Nat}(h:b∈[n+4,n+2,n+3,n,n+1]):n<=b:=by
 simp only[AL,BW,or_false] at h;omega
variable{S:Type}{W:Wd S}{c:Dx W}{g:Gr}
instance tDB{S:Type}{W:Wd S}(c:Dx W)(f:A5 S):TA:=λY H Q=>∃Z st,Ax c H Y Z/\W.ok st H/\
 Ab (f Z st) (λl st'=>∀vs H',Ah W H H'->W.ok st' H'->aa c.K (Av c Y Z) H' l vs->Q vs H') λx st'=>∀H',Ah W H H'->W.ok st' H'->c.Ex x st' H'
instance DB(X:Cx){S:Type}{W:Wd S}(c:Dx W)(es:List Expr)(f:A5 S):Prop:=PA X es (tDB c f)
def wS:DB X c [] (G6 S):=bu.imp λY H Q ⟨Z,b,R,a,w⟩=>w [] H Ah.refl a (aa.nil.mpr rfl)
def wT(h:DE X c .B e f)(a:DB X c es r)(b:autoParam 's' uR):DB X c (e::es) (CD S f r):=
 (bp h a b).imp λY H Q hI35=>by
  obtain⟨Z,a,R,b,w⟩:=hI35;refine{Z,a,R,b,ak (ae.mp w) (λd a q v H1 e f z=>?_) λx a q=>q};refine{Z,a,R.ext b e,f,ak (ae.mp q) (λl b q i H2 h a j=>?_) λx b q H2 h a=>q H2 (e.trans h) a};have z:Is c.K (Av c Y Z) H1 d v:=z;exact q (v::i) H2 (e.trans h) a (aa.cons.mpr {v,i,rfl,z.ext h f (λb n=>n.1),j})
def EM(l m:List D):List D:=List.zipWith (λa b=>.tup [a,b]) l m
instance D.tupL:D->Option (List D)
 | .tup l=>some l
 | _=>none
theorem D.tupL_eq{d:D}{l:List D}(h:d.tupL=some l):d=.tup l:=by
 cases d with
 | tup m=>cases h;rfl
 | _=>cases h
def ku{i:Nat}(h:(EM l m)[i]?=some d):∃x y,l[i]?=some x/\m[i]?=some y/\d=.tup [x,y]:=by
 unfold EM at h;rw[List.getElem?_zipWith] at h;cases q:l[i]? with
 | none=>rw[q] at h;simp at h
 | some x=>
   cases q2:m[i]? with
   | none=>rw[q,q2] at h;simp at h
   | some y=>rw[q,q2] at h;cases h;exact⟨x,y,rfl,rfl,rfl⟩
def qI{i:Nat}(h:(EM l m).length<=i):l.length<=i\/m.length<=i:=by
 unfold EM at h;rw[List.length_zipWith] at h;omega
def kw(v:∀(e:Dx W) a f H2,AW (Av c Y Z) (Av e a f) H1 H2->Sq H2 h i)(p:aa c.K (Av c Y Z) H1 l h)(b:aa c.K (Av c Y Z) H1 m i):G8 c Y Z H1 (Izp Sq) (EM l m):=by
 intro e j a f H2 d k R2 o j;have n:Sq H2 h i:=v e a f H2 k;have j:aa c.K (Av e a f) H2 l h:=p.mono k;have o:aa c.K (Av e a f) H2 m i:=b.mono k;refine{λd l=>?_,λb=>{h,i,n,by rw[<-j.length,<-o.length];exact qI b}};obtain⟨x,y,s,r,rfl⟩:=ku l;obtain⟨m,b,p⟩:=j.get s;obtain⟨q,d,l⟩:=o.get r;refine{⟨h,i,m,q,n,b,d⟩,?_};rintro j H3 ⟨u,s,o,r,rfl,rfl,j⟩;obtain⟨s,o⟩:=j h i n;rw[b] at s;cases s;rw[d] at o;cases o;have j:Ch H2 (Af H2 u (.tup [m,q])):=λb o d=>by rw[aj (aF d r)];exact d
 have n:AW (Av e a f) (Av e a f) H2 (Af H2 u (.tup [m,q])):=bG (λb o d _=>j b o d) λb o a d=>{a,j b o d}
 exact{j,Is.tup aw (aa.cons.mpr {_,_,rfl,p.mono n,aa.one (l.mono n)})}
end
end L2
namespace HT
open PySem PyProof.Rows
end HT
namespace L2
section
variable{X:Cx}{e st:Expr}{te ts:TE}{p2 pos:Pos}
end
section
variable{X:Cx}{S:Type}{W:Wd S}{c:Dx W}{g ga gb:Gr}{a b:Expr}{fa fb:Fn S}{pos p2:Pos}
abbrev FnO(S:Type):=Ag->S->Ap S (Option Int)
instance tDO{S:Type}{W:Wd S}(c:Dx W)(f:FnO S):TO:=λY H Q=>∃Z st,Ax c H Y Z/\W.ok st H/\
 Ab (f Z st) (λo st'=>∀H',Ah W H H'->W.ok st' H'->Q o H') λx st'=>∀H',Ah W H H'->W.ok st' H'->c.Ex x st' H'
instance DO(X:Cx){S:Type}{W:Wd S}(c:Dx W)(e:Option Expr)(f:FnO S):Prop:=PO X e (tDO c f)
def PO.imp(h:PO X e t)(i:∀Y H Q,t' Y H Q->t Y H Q):PO X e t':=λd s Y H Q I q=>h d s Y H Q I (i Y H Q q)
instance pNo(S:Type):FnO S:=λ_ st=>.ok none st
instance D.int?:D->Option Int
 | .int i=>some i
 | _=>none
instance pSo(S:Type)(f:Fn S):FnO S:=λZ st=>(f Z st).bind λd st1=>(Az d.int? st1).bind λi st2=>.ok (some i) st2
def wU:DO X c none (pNo S):=i6.imp λY H Q ⟨Z,e,R,d,w⟩=>w H Ah.refl d
def wV(h:DE X c g a fa):DO X c (some a) (pSo S fa):=(i7 h).imp λY H Q hI36=>by
 obtain⟨Z,d,R,e,w⟩:=hI36;refine{Z,d,R,e,ak (ae.mp w) (λd f q v H1 e h z=>?_) λx f q=>q};obtain⟨i,l,q⟩:=au.mp (ae.mp q);cases d with
 | int j=>cases l;exact{_,Is.int_iff.mp (show Is c.K 'w' H1 (.int i) v from z.toR),q H1 e h}
 | _=>cases l
instance cutD(xs:List D)(lo hi:Option Int):List D:=(xs.drop (HT.sIx xs.length 0 lo)).take (HT.sIx xs.length xs.length hi-HT.sIx xs.length 0 lo)
def gB{K:FG}{A:Addr->Prop}{H:Hp}{l:List D}{d:List V}{e f:Option Int}(h:aa K A H l d):aa K A H (cutD l e f) (D3 d e f):=by
 unfold cutD D3;rw[h.length];exact(h.drop _).take _
theorem kx:∀{l:List D} {n:Nat},D.immL l=true->D.immL (l.take n)=true
 | [],_,_=>by simp[D.immL]
 | _::_,0,_=>by simp[D.immL]
 | x::l,n+1,m=>by
   have d:x.imm=true/\D.immL l=true:=by simpa [D.immL] using m
   simp only[List.take_succ_cons,D.immL,d.1,kx d.2,C9]
theorem kz:∀{l:List D} {n:Nat},D.immL l=true->D.immL (l.drop n)=true
 | [],_,_=>by simp[D.immL]
 | _::_,0,m=>m
 | x::l,n+1,m=>by
   have d:x.imm=true/\D.immL l=true:=by simpa [D.immL] using m
   exact kz (l:=l) (n:=n) d.2
def gC{l:List D}{d e:Option Int}(m:D.immL l=true):D.immL (cutD l d e)=true:=kx (kz m)
def Ez(lo hi:Option Int):D->Option D
 | .lst l=>if D.immL l=true then some (.lst (cutD l lo hi)) else none
 | .fl l=>if D.immL l=true then some (.lst (cutD l lo hi)) else none
 | .tup l=>if D.immL l=true/\¬(HT.sIx l.length 0 lo=0/\HT.sIx l.length l.length hi=l.length) then some (.tup (cutD l lo hi)) else none
 | _=>none
def Ia(S:Type)(f:Fn S)(lo hi:FnO S):Fn S:=λZ st=>(f Z st).bind λd st1=>(lo Z st1).bind λl st2=>(hi Z st2).bind λh st3=>Az (Ez l h d) st3
open H in
def wX{lo hi:Option Expr}{fl fh:FnO S}(hK:c.K=X.K)(ha:DE X c ga a fa)(hl:DO X c lo fl)(hh:DO X c hi fh):DE X c g (.Subscript a (.Slice lo hi none p2) pos) (Ia S fa fl fh):=
 (i8 (jd.or oG) ha hl hh).imp λY H Q hI37=>by
  obtain⟨Z,st,R,ok,w⟩:=hI37;refine{Z,st,R,ok,ak (ae.mp w) (λd st1 q v H1 e ok1 z=>?_) λx st1 q=>q};refine{Z,st1,R.ext ok e,ok1,ak (ae.mp q) (λl st2 q H2 e2 ok2=>?_) λx st2 q H2 e2 ok2=>q H2 (e.trans e2) ok2};have R2:=(R.ext ok e).ext ok1 e2;refine{Z,st2,R2,ok2,ak (ae.mp q) (λh st3 q H3 e3 ok3=>?_) λx st3 q H3 e3 ok3=>q H3 ((e.trans e2).trans e3) ok3};obtain⟨dd,e4,q⟩:=au.mp q;have ez:Ah W H1 H3:=e2.trans e3;have z3:Is c.K 'w' H3 d v:=z.toR.ext ez ok1;have R3:=R2.ext ok2 e3;have et:Ah W H H3:=e.trans ez;cases d with
  | lst m=>
    have e4:(if D.immL m=true then some (D.lst (cutD m l h)) else none)=some dd:=e4;split at e4
    ·rename_i im
     cases e4;obtain⟨p,vs,ev,n,s0,i⟩:=Is.lst_iff.mp z3;refine .inl {p,vs,ev,.of s0,λr hr=>?_};exact q _ _ (et.trans (Ah.laid hr)) (aY ok3 hr) ((AE.val R3 (AE.lst ok3 hr (λ_ n=>n) (gC im) (gB i)) g).back et ok3)
    ·cases e4
  | fl m=>
    have e4:(if D.immL m=true then some (D.lst (cutD m l h)) else none)=some dd:=e4;split at e4
    ·rename_i im
     cases e4;obtain⟨p,vs,ev,s0,i,_⟩:=Is.asL z3 rfl;refine .inl {p,vs,ev,.inl s0,λr hr=>?_};exact q _ _ (et.trans (Ah.laid hr)) (aY ok3 hr) ((AE.val R3 (AE.lst ok3 hr (λ_ n=>n) (gC im) (gB i)) g).back et ok3)
    ·cases e4
  | tup m=>
    have e4:(if D.immL m=true/\¬(HT.sIx m.length 0 l=0/\HT.sIx m.length m.length h=m.length) then some (D.tup (cutD m l h)) else none)=some dd:=e4;split at e4
    ·rename_i im
     cases e4;obtain⟨p,vs,ev,s0,i⟩:=Is.tup_iff.mp z3;refine .inr {p,vs,ev,.of s0,by rw[<-i.length];exact im.2,λr hr=>?_};exact q _ _ (et.trans (Ah.laid hr)) (aY ok3 hr) ((AE.val R3 (AE.tup ok3 hr (λ_ n=>n) (gC im.1) (gB i)) g).back et ok3)
    ·cases e4
  | _=>cases e4
def EN:List D->Option (List Int)
 | []=>some []
 | .int i::l=>(EN l).map λr=>i::r
 | _=>none
theorem kA{K:FG}{A:Addr->Prop}{H:Hp}:∀{l:List D} {d:List V} {ns:List Int},EN l=some ns->aa K A H l d->d=ns.map V.int
 | [],d,ns,e,h=>by cases e;rw[aa.nil.mp h];rfl
 | .int i::l,d,ns,e,h=>by
   unfold EN at e;cases q:EN l with
   | none=>rw[q] at e;cases e
   | some r=>
     rw[q] at e;cases e;obtain⟨v,r',j,i,f⟩:=aa.cons.mp h;rw[j,Is.int_iff.mp i,kA q f];rfl
 | .non::_,_,_,e,_=>by cases e
 | .bl _::_,_,_,e,_=>by cases e
 | .str _::_,_,_,e,_=>by cases e
 | .tup _::_,_,_,e,_=>by cases e
 | .lst _::_,_,_,e,_=>by cases e
 | .dct _ _::_,_,_,e,_=>by cases e
 | .fl _::_,_,_,e,_=>by cases e
 | .fd _ _::_,_,_,e,_=>by cases e
def Ku(S:Type):Ay S:=λ_ _=>.bad
end
section
variable{S:Type}
def Jv(S:Type)(i j:Nat)(f:A5 S):Ay S:=λZ st=>(f Z st).bind λl st1=>match l with
 | [d,e]=>(Az (put Z i d) st1).bind λZ1 st2=>(Az (put Z1 j e) st2).bind λZ2 st3=>.ok (.nx Z2) st3
 | _=>.bad
open H in
def bL{i:Nat}(h:put Z i d=some Z'):i<Z.length/\Z'=Z.set i (.bor d):=by
 unfold put at h;split at h
 ·rename_i a;cases h;exact⟨a,rfl⟩
 ·cases h
open H in
def wY{i j:Nat}{x y:Str}{kt k2 pt2}(q:X.calm=true)(p:X.N.Nodup)(o:X.N[i]?=some x)(m:X.N[j]?=some y)(d:i≠j)(l:X.env.scope.names.lookup x=some .local)(g:X.env.scope.names.lookup y=some .local)(n:DB X c [a,b] f)(e:swappedStores [.Tuple [.Name x px,.Name y py] kt pt] (.Tuple [a,b] k2 pt2) X.env=pure (some [x,y]))(h:autoParam (swapsWithSole [.Tuple [.Name x px,.Name y py] kt pt] (.Tuple [a,b] k2 pt2) pos.line X.env=pure false) uR) :
 DS X c (.Assign [.Tuple [.Name x px,.Name y py] kt pt] (.Tuple [a,b] k2 pt2) pos) (Jv S i j f):=
 (nT q p o m d l g n e h).imp λD Y H hI38=>by
  obtain⟨Z,a,R,f,w⟩:=hI38;refine{Z,a,R,f,ak (ae.mp w) (λl b q d H1 e a z=>?_) λx b q d e g=>q d (e.f0 R) g};split at q
  ·rename_i d e'
   obtain⟨v,r,g,j,b⟩:=aa.cons.mp z;obtain⟨v',r',l,b,h⟩:=aa.cons.mp b;rw[l,aa.nil.mp h] at g;obtain⟨l,n,q⟩:=au.mp (ae.mp q);obtain⟨l,h,q⟩:=au.mp (ae.mp q);obtain⟨l,rfl⟩:=bL n;obtain⟨m,rfl⟩:=bL h;have n:=(R.ext f e).setB l j;have h:AW (Av c Y Z) (Av c (Y.set i (some v)) (Z.set i (.bor d))) H1 H1:=Bb.keepT (R.ext f e) a bf;have R2:=n.setB m (b.mono h);exact{v,v',g,q _ _ ((Ah.frm e).trans (bf.trans bf)) a R2}
  ·exact q.elim
end
section
variable{X:Cx}{S:Type}{W:Wd S}{c:Dx W}{g ga gb:Gr}{a b:Expr}{fa fb:Fn S}{pos p2:Pos}
def AJ(a b:D):Option D:=(AD (λi j=>.int (i+j)) a b).or ((Gu a b).or ((Gv a b).or (Hc a b)))
def kB:AU X (binaryOp .Add) (λx y H Q=>DX (λi j=>.int (i+j)) x y H Q\/(G0 x y H Q\/(GZ X.K x y H Q\/Hb X.K x y H Q))):=dJ.or (oR.or (oH.or qz))
def kC{K:FG}(d:c.K=K):Bg c (λx y H Q=>DX (λi j=>.int (i+j)) x y H Q\/(G0 x y H Q\/(GZ K x y H Q\/Hb K x y H Q))) AJ:=qd.or (qt.or ((qu d).or qA))
instance D.seq?:D->Option (List D)
 | .tup l=>some l
 | .lst l=>some l
 | _=>none
def wZ{tg e:Expr}{f:Fn S}(hK:c.K=X.K)(h:DE X c .B e f):DI X c tg e (Ew S D.seq? f):=by
 intro A0 s Y H R I q;obtain⟨Z,st,R0,ok,w⟩:=q;unfold Ew at w;cases q:f Z st with
 | bad=>rw[q] at w;exact w.elim
 | exc x st1=>
   refine jM (tg:=tg) hK h A0 s Y H R I {Z,st,R0,ok,?_};unfold Ew;rw[q] at w ⊢;exact w
 | ok d st1=>
   rw[q] at w;cases d with
   | tup l=>
     refine jM (tg:=tg) hK h A0 s Y H R I {Z,st,R0,ok,?_};unfold Ew;rw[q];exact w
   | lst l=>
     refine pW (tg:=tg) hK h A0 s Y H R I {Z,st,R0,ok,?_};unfold Ew;rw[q];exact w
   | _=>exact w.elim
def Hd(S:Type)(i:Nat)(f:Fn S)(o:Int->Int->Int):Ay S:=λZ st=>match rd Z i with
 | some (.int a)=>(f Z st).bind λd st1=>match d with
   | .int b=>(Az (put Z i (.int (o a b))) st1).bind λZ1 st2=>.ok (.nx Z1) st2
   | _=>.bad
 | _=>.bad
open H in
def w3{i:Nat}{x:Str}{e:Expr}{f:Fn S}{d:Operator}{o:Int->Int->Int}{p:Pos}(n:X.N.Nodup)(m:X.N[i]?=some x)(l:Loc X.env.scope x)(j:PIp X d (ipI o))(q:DE X c .R e f)(h:autoParam (X.fn x=true\/X.env.scope.names.lookup x=some .local) z0a._auto_1) :
 DS X c (.AugAssign (.Name x p) d e pos) (Hd S i f o):=
 (nU n m l q j h).imp λD Y H hI39=>by
  obtain⟨Z,f,R,i,w⟩:=hI39;unfold Hd at w;split at w
  ·rename_i a0 d
   obtain⟨v,h,o⟩:=R.rd d;refine{v,h,Z,f,R,i,ak (ae.mp w) (λd f q l H1 e h z=>?_) λx f q j e d=>q j (e.f0 R) d};split at q
   ·rename_i f
    obtain⟨d,n,q⟩:=au.mp (ae.mp q);obtain⟨d,rfl⟩:=bL n;have j:=R.ext i e;have z':Is c.K 'w' H1 (.int f) l:=z.toR;exact{a0,f,Is.int_iff.mp o,Is.int_iff.mp z',q _ _ ((Ah.frm e).trans bf) h (j.setB d (Is.int_iff.mpr rfl))}
   ·exact q.elim
  ·exact w.elim
def eV{id:String}{x:Str}{p pos:Pos}{e:Expr}{es:List Expr}{r:List V->Hp->VK->Prop}{o:List D->Option D}{f:A5 S}(q:DA X c (e::es) f)(s:CA X (.builtin id) r)(i:Cp c r o)(j:Gl X x)(m:X.mg x=none)(n:bootBuiltins x=some (.builtin id))(l:autoParam (x≠"__name__") uD)(h:autoParam 'u' uD)(r:autoParam 's' uR)(d:autoParam 'i' uR):DE X c g (.Call (.Name x p) (e::es) [] pos) (fA S o f):=
 jB (id:=id) (f4 s j m n q l h r d) rfl i
def w4{T:String}{x:Str}{p pos:Pos}{e:Expr}{es:List Expr}{r:List V->Hp->VK->Prop}{o:List D->Option D}{f:A5 S}(q:DA X c (e::es) f)(s:CA X (.type T) r)(i:Cp c r o)(j:Gl X x)(m:X.mg x=none)(n:bootBuiltins x=some (.type T))(l:autoParam (x≠"__name__") uD)(h:autoParam 'u' uD)(r:autoParam 's' uR)(d:autoParam 'i' uR):DE X c g (.Call (.Name x p) (e::es) [] pos) (fA S o f):=
 jB (id:=T) (i0 s j m n q l h r d) rfl i
end
end L2
namespace PySem
namespace F
def lk_list_keys:typeLookup (.type "list") "keys" = pure none:=by rw[typeLookup_type,builtinLookup_eq_fast];kernel_rfl
end F
def qJ(e:PlainL s.heap a i)(p:A.handled=none)(h:∀f l,(∀b o,s.heap.get? b=some o->f.get? b=some o)->Q none { s with heap:=f,toks:=l }) :
 wpAny 'r' A (getAttr? (.ref a) "keys") Q E s:=by
 obtain⟨⟨c,b,d,n⟩,k,j,m,c,b⟩:=e;simp only at m b c;subst m b c;obtain⟨e,g,d,l,m⟩:=s;have c:∀b,(⟨e,g,d,b,m⟩:Shared).TypeIs (.ref a) "list":=λ_=>{_,j,rfl}
 have d:=sub_AttributeError;have e:=F.slot_list_getattribute.lookup;have d:=F.slot_list_getattribute.bind (.ref a);have d:=am_list_getattr_none;unfold getAttr? getAttrBy? getAttrBy;repeat (any_goals (first | assumption | exact c _ | ((with_reducible show wpAny _ _ (call (Value.builtin "list.__getattribute__") _ _) _ _ _);refine call_meets F.slot_list_getattribute (c _) am_entry_list_getattribute (F.args_list_getattribute_2 _ _) (meets_getattribute_miss_list a i k n "keys" _ F.lk_list_keys (by decide +kernel) (by size_fits)) {j,p,λf b e a=>?_}) | wp_step))
 obtain⟨c,u',d⟩:=a.there;show wpAny _ _ (getattributeRaised _ _ _ _ _ _ _) _ _ _;unfold getattributeRaised;repeat (any_goals (first | assumption | wp_step))
 exact h f b a.keeps
end PySem
namespace PySem.F
def plain_upd_loop:plainId "dict.update.loop" = true:=by decide +kernel
def entry_upd_loop:entryFor table "dict.update.loop" = some Builtin.«dict.update.loop»:=entryFor_of_fast (by kernel_rfl)
end PySem.F
namespace L2
def E6(H:Hp):List V->List (List Ak×V)->Prop
 | [],ps=>ps=[]
 | v::vs,ps=>∃t b k x r,ps=(k,x)::r/\v=.ref t/\H t=some (.tup [.ref b,x])/\Cg H b k/\E6 H vs r
def Fw(kvs ps:List (List Ak×V)):List (List Ak×V):=ps.foldl (λacc p=>Bk acc p.1 p.2) kvs
theorem E6.keep(c:∀u,H d≠some (.tup u))(h:E6 H a ps):E6 (Af H d o) a ps:=by
 induction a generalizing ps with
 | nil=>exact h
 | cons v a i=>
   obtain⟨t,b,k,x,r,g,j,d,e,f⟩:=h;exact{t,b,k,x,r,g,j,(aj λz=>c _ (z▸d)).trans d,e.keeps λb g q=>(aj λz=>c _ (z▸q)).trans q,i f}
section
variable{X:Cx}{A0:List 'p'}{Y:St}
open H in
def qK(hc:X.calm=true)(hu:X.A.in1.units+2<cLine):∀(n i:Nat) (s:Shared) (H:Hp) (f y:List (List Ak×V)) (t:Tok),vs.length-i=n->i<=vs.length->Ad X A0 Y H s->CS X A0 H it->
 s.heap.IsListIter it a i->H a=some (.lst vs)->H d=some (.dT f)->E6 H (vs.drop i) y->f.length+y.length<sizeLine->Q (.ref d) (Af H d (.dT (Fw f y)))->
 codeAny 'e' X.A.in1 (.builtin "dict.update.loop" {[.ref d,.ref it,.int i t,.none],[]}) (wants (λr G=>r=.none/\EP X A0 Y Q (.ref d) G) X.xe) s:=by
 intro n;induction n with
 | zero=>
   intro i s H f y t hn hi I m l N h v hz q;have e:i=vs.length:=Fk hi (Nat.le_of_sub_eq_zero hn);subst e;rw[List.drop_length] at v;have v:y=[]:=v;subst v;obtain⟨its,rv,pl,_⟩:=I.list (AT.of N);obtain⟨B,Z,f2,f3,U,f5⟩:=m;refine codeAny_builtin F.entry_upd_loop ?_;rw[Around.under_plainId F.plain_upd_loop _];show wpAny _ X.A.in1.in1 (pyNext (.ref it) >>= λ_=>_) _ _ s;have hl:=rv.length;refine Ac (wpAny_pyNext_list_end (I.ok.hd hc) l pl.isList (GT (BX (AQ.trans hl.symm))) λM eb=>?_);have I1:Ad X A0 Y H { s with heap:=M }:=I.turned (t':=s.toks) (λb o g e=>eb b o g e) B Z f3 U f5;show wpAny _ X.A.in1.in1 (Builtin.Dict.addKeywords d [] >>= λ_=>ret .none) _ _ _;refine Ac (Aj (Aj ?_));refine{rfl,.ref d,H,I1,rfl,?_};have e2:Af H d (.dT (Fw f []))=H:=by
    funext b;by_cases g:b=d
    ·subst g;rw[aw,h];rfl
    ·rw[aj g]
   rw[e2] at q;exact q
 | succ n ih=>
   intro i s H f y t hn hi I m l N h v hz q;have j:i<vs.length:=Nat.lt_of_sub_eq_succ hn;rw[GO j] at v;obtain⟨tt,b,k,x,r,rfl,ev,ht,g,hr⟩:=v;obtain⟨its,rv,pl,_⟩:=I.list (AT.of N);obtain⟨u,hu',ru⟩:=rv.get (i:=i) (x:=vs[i]) (Ba j);rw[ev] at ru;cases (show u=Value.ref tt from ru);obtain⟨B,Z,f2,f3,U,f5⟩:=id m;refine codeAny_builtin F.entry_upd_loop ?_;rw[Around.under_plainId F.plain_upd_loop _];show wpAny _ X.A.in1.in1 (pyNext (.ref it) >>= λ_=>_) _ _ s;refine Ac (wpAny_pyNext_list_item l pl.isList (x:=.ref tt) (by simpa using hu') λM L sb=>?_);have I1:Ad X A0 Y H { s with heap:=M }:=I.turned (t':=s.toks) (λc o g e=>(sb.2 c g).trans e) B Z f3 U f5;obtain⟨ps2,r2,p2,_⟩:=I1.tuple (AN.of ht);obtain⟨o2,J,hc2,n2,hd2⟩:=id p2;obtain⟨R,O,rfl,rk,rx⟩:∃R O,ps2=[R,O]/\An (.ref b) R/\An x O:=by
    cases r2 with
    | cons p q=>
      cases q with
      | cons p' q'=>cases q';exact{_,_,rfl,p,p'}
   cases (show R=Value.ref b from rk);refine Ac (wpAny_holding (Ac (wpAny_tryCatch ?_)));unfold Builtin.Dict.pairItems;refine Ac (wpAny_typeOf (T:="tuple") ⟨o2,J,hc2⟩ ?_);rw[if_pos 'z'];refine Ac (Ef J hd2 (Aj ?_));obtain⟨z,hdm,xs,P,dd⟩:=eG I1.hok h;have hz1:xs.length<=sizeLine:=by rw[<-Paired.length P];exact z
   have C:f.length+(r.length+1)<sizeLine:=hz;have hl:(Bk f k x).length<=sizeLine:=Aw (dQ f k x) (Aw (C5 (Em (AR _)) _) (Bw C));show wpAny _ _ (holding [.ref b,O] (dictSet d (.ref b) O)) _ _ _;refine wpAny_holding (wpAny_dictSet_heap (hsz:=hz1) (cB hu) (bS I1.hok g) dd λh2 dd' W=>Aj ?_);have I2:Ad X A0 Y (Af H d (.dT (Bk f k x))) { s with heap:=h2,toks:=s.toks+(D1 X.prog X.w).draws k }:=by
    obtain⟨q,es,ep,hq,h2',h3,h4,_,h5⟩:=dd';refine de (s:={ s with heap:=M }) (t':=s.toks+(D1 X.prog X.w).draws k) I1 (by rw[h];exact True.intro) W ⟨q,hq⟩ {hl,hdm,_,(P.put k g rx).keeps λc ys ec=>?_,q,es,ep,hq,h2',h3,h4,h5};rw[aj (bQ ec h (λz=>nomatch z))];exact ec
   have E:it≠d:=λe=>by rw[e,h] at B;cases B
   have nda:a≠d:=bQ N h (λz=>nomatch z);have W:Heap.SameBut d M h2:=W;refine{plainId_quiet F.plain_upd_loop _,ih (i+1) _ _ (Bk f k x) r _ ((Nat.sub_succ ..).trans (congrArg Nat.pred hn)) j I2 {by rw[aj E];exact B,Z,f2,f3,U,f5} (L.extBut W.extBut E) (by rw[aj nda];exact N) aw (hr.keep λu e=>by rw[h] at e;cases e) ?_ ?_}
   ·exact Cc (Aw (F7 (dQ f k x) _) (BX (Nat.add_right_comm ..))) C
   ·rw[upd_upd];exact q
def w5(i:X.calm=true)(n:X.A.in1.units+2<cLine):CA X (.type "dict") (λj H Q=>∃(a:Addr) (vs:List V) (f:List (List Ak×V)),j=[.ref a]/\H a=some (.lst vs)/\E6 H vs f/\f.length<sizeLine/\∀d,H d=none->Q (.ref d) (Af H d (.dT (Fw [] f)))):=by
 intro A0 s Y H j b Q I r h;obtain⟨a,vs,f,rfl,g,v,l,q⟩:=h;obtain⟨u,rfl,r1⟩:=bE r;cases r1;have e:X.A.handled=none:=I.ok.hd i;refine callType_codes (Q₁:=λc b=>c=.ref s.heap.objs.size/\b={ s with heap:=s.heap.push { cls:=.type "dict",data:=.dict #[] } }) F.kt_called_dict (F.kt_typeCall_dict_1 _) F.entry_dict_init (kt_code_dict_new _ ⟨rfl,rfl⟩) ?_;rintro c b ⟨rfl,rfl⟩;have h:=I.hok.fresh (Al s.heap.objs.size);have I1:=I.laid (a:=s.heap.objs.size) (o:=.dT []) (h':=s.heap.push { cls:=.type "dict",data:=.dict #[] }) (t':=s.toks) (λ_ _ q=>AH _ q) (Al _) (gh s.heap I.big);have b:({ s with heap:=s.heap.push { cls:=.type "dict",data:=.dict #[] } }:Shared).TypeIs (.ref s.heap.objs.size) "dict":={_,AZ _ rfl,rfl};refine{b,F.args_dict_init_2 _ _,?_};unfold Builtin.«dict.__init__»;refine Ac ?_;unfold Builtin.Dict.selfAndRest;refine Ac (wpAny_notOrdered_dict b ?_);show wpAny _ _ (pure (s.heap.objs.size,[Value.ref a])) _ _ _;refine Aj ?_;show wpAny _ _ (Builtin.Dict.updateFrom "dict.__init__" s.heap.objs.size (.ref a) [] .none) _ _ _;unfold Builtin.Dict.updateFrom;have b:a≠s.heap.objs.size:=aF g h;have d:Af H s.heap.objs.size (.dT []) a=some (.lst vs):=by rw[aj b];exact g
 obtain⟨c,m,pl,_⟩:=I1.list (AT.of d);refine Ac (wpAny_typeOf pl.isList.typeIs ?_);rw[if_pos 'z'];refine Ac (qJ pl e λg c p=>?_);have I2:Ad X A0 Y (Af H s.heap.objs.size (.dT [])) { s with heap:=g,toks:=c }:=I1.kept (t':=c) p;obtain⟨e,m,b,_⟩:=I2.list (AT.of d);rw[if_pos (by rfl)];refine Ac (bc (Ac (wpAny_pyIter_list b.isList (Aj ?_))));have I3:Ad X A0 Y (Af H s.heap.objs.size (.dT [])) { s with heap:=g.push { cls:=.type "list_iterator",data:=.fields #[.ref a,.int 0 0] },toks:=c }:=I2.kept (t':=c) λb o e=>AH _ e
 have b:CS X A0 (Af H s.heap.objs.size (.dT [])) g.objs.size:=I2.fpOk (Al _) (I2.hok.fresh (Al _));refine{plainId_quiet F.plain_upd_loop _,qK i n (a:=a) (vs:=vs) vs.length 0 _ _ [] f _ rfl (AR _) I3 b {_,AZ _ rfl,rfl,rfl} d aw ?_ (Cc (BX (Aq _)) l) ?_}
 ·rw[Fp]
  exact v.keep λu e=>by rw[h] at e;cases e
 ·rw[L2.upd_upd];exact q _ h
end
section
variable{X:Cx}{S:Type}{W:Wd S}{c:Dx W}{g ga gb gc:Gr}{a b:Expr}{fa fb fc:Fn S}{pos p2:Pos}
def EA:List D->Option (List (List Ak×D))
 | []=>some []
 | .tup [k,v]::l=>if v.imm=true then (AG k).bind λkk=>(EA l).map λr=>(kk,v)::r else none
 | _=>none
def Cj(ps:List (List Ak×D))(acc:List D×List D):List D×List D:=ps.foldl (λacc p=>AY p.1 p.2 acc.1 acc.2) acc
def Ib:List D->Option D
 | [.lst l]=>if l.length<sizeLine then (EA l).map λps=>.dct (.non::(Cj ps ([],[])).1) (Cj ps ([],[])).2 else none
 | _=>none
open H in
theorem kD{K:FG}{A:Addr->Prop}{H:Hp}:∀{l:List D} {j:List V} {i:List (List Ak×D)},EA l=some i->aa K A H l j->
 ∃f:List (List Ak×V),E6 H j f/\f.map (·.1)=i.map (·.1)/\aa K A H (i.map (·.2)) (f.map (·.2))/\D.immL (i.map (·.2))=true/\f.length=l.length
 | [],j,i,e,h=>by
   cases e;rw[aa.nil.mp h];exact{[],rfl,rfl,aa.nil.mpr rfl,rfl,rfl}
 | d::l,j,i,e,h=>by
   unfold EA at e;split at e
   ·rename_i d
    cases d
   ·rename_i k v i d
    cases d;split at e
    ·rename_i B
     cases q1:AG k with
     | none=>rw[q1] at e;cases e
     | some d=>
       cases q2:EA l with
       | none=>rw[q1,q2] at e;cases e
       | some r=>
         rw[q1,q2] at e;cases e;obtain⟨w,i,z,n,l⟩:=aa.cons.mp h;obtain⟨t,i,u,m,o⟩:=Is.tup_iff.mp n;obtain⟨h,r1,r,i,q⟩:=aa.cons.mp o;obtain⟨h,r2,A,n,p⟩:=aa.cons.mp q;obtain⟨b,s,o,_⟩:=dh q1 i;obtain⟨f,x,q,C,v,y⟩:=kD q2 l;refine{(d,h)::f,?_,by simp[q],aa.cons.mpr {_,_,rfl,n,C},by simp[D.immL,B,v],by simp[y]};rw[z];refine{t,b,d,h,f,rfl,u,?_,o,x};rw[m,r,A,s,aa.nil.mp p]
    ·cases e
   ·cases e
theorem kE{K:FG}{A:Addr->Prop}{H:Hp}:∀{f:List (List Ak×D)} {i:List (List Ak×V)},i.map (·.1)=f.map (·.1)->aa K A H (f.map (·.2)) (i.map (·.2))->D.immL (f.map (·.2))=true->
 ∀{kk:List (List Ak)} {vs:List D} {us:List V},kk.length=us.length->aa K A H vs us->D.immL vs=true->
 ∃(l:List (List Ak)) (j:List V),(Cj f (kk.map AC,vs)).1=l.map AC/\aa K A H (Cj f (kk.map AC,vs)).2 j/\l.length=j.length/\Fw (kk.zip us) i=l.zip j/\D.immL (Cj f (kk.map AC,vs)).2=true
 | [],i,e,h,m,kk,vs,us,s,x,mv=>by
   have:i=[]:=by simpa using e
   subst this;exact⟨kk,us,rfl,x,s,rfl,mv⟩
 | (k,d)::f,i,e,h,m,kk,vs,us,s,x,mv=>by
   cases i with
   | nil=>cases e
   | cons q i=>
     obtain⟨k',v⟩:=q;obtain⟨w,r,u,I,B⟩:=aa.cons.mp h;have u:v::i.map (·.2)=w::r:=u;cases u;have y:k'=k/\i.map (·.1)=f.map (·.1):=by simpa using e
     obtain⟨rfl,y⟩:=y;have z:d.imm=true/\D.immL (f.map (·.2))=true:=by simpa [D.immL] using m
     obtain⟨n,L,N,M,Q,F⟩:=kl (k:=k') I s x;have O:=gA (k:=k') (ks:=kk.map AC) z.1 mv;obtain⟨p,o,C,f2,P,J,G⟩:=kE y B z.2 (kk:=n) (vs:=(AY k' d (kk.map AC) vs).2) Q M O;have E:Cj ((k',d)::f) (kk.map AC,vs)=Cj f (n.map AC,(AY k' d (kk.map AC) vs).2):=by
      show Cj f (AY k' d (kk.map AC) vs)=_;rw[<-N]
     rw[E];refine{p,o,C,f2,P,?_,G};show Fw (Bk (kk.zip us) k' v) i=_;rw[F];exact J
open H in
def w6:Cp c (λs H Q=>∃(a:Addr) (vs:List V) (f:List (List Ak×V)),s=[.ref a]/\H a=some (.lst vs)/\E6 H vs f/\f.length<sizeLine/\∀d,H d=none->Q (.ref d) (Af H d (.dT (Fw [] f)))) Ib:=by
 intro l vs H h d Q j z e q;unfold Ib at e;split at e
 ·rename_i m
  split at e
  ·rename_i i
   cases q1:EA m with
   | none=>rw[q1] at e;cases e
   | some f=>
     rw[q1] at e;cases e;obtain⟨v,r,d,l,h⟩:=aa.cons.mp z;obtain⟨a,us,o,_,r,p⟩:=Is.lst_iff.mp l;rw[aa.nil.mp h,o] at d;obtain⟨m,l,n,v,o,u⟩:=kD q1 p;refine{a,us,m,d,r,l,by rw[u];exact i,λp h=>?_};obtain⟨kk,d,i,f2,u,l,r⟩:=kE n v o (kk:=[]) (vs:=[]) (us:=[]) rfl (aa.nil.mpr rfl) rfl;have i:(Cj f ([],[])).1=kk.map AC:=i;have f2:aa c.K 'w' H (Cj f ([],[])).2 d:=f2;have l:Fw [] m=kk.zip d:=l;refine q _ _ (Ah.laid h) (aY j h) (Is.dct_iff.mpr {p,d,rfl,{bH j h,h},aa.ofImm r (f2.ext (Ah.laid h) j λ_ n=>n),.inr {kk,by rw[i],u,?_}});rw[aw,l]
  ·cases e
 ·cases e
def Kv(i j k:Nat)(ta:TA):TS:=λD Y H=>ta Y H λvs H1=>∃u v w,vs=[u,v,w]/\D.nx (((Y.set i (some u)).set j (some v)).set k (some w)) H1
def qL{i j k:Nat}{x y z:Str}{kt k2 pt2}(P:X.calm=true)(E:X.N.Nodup)(M:X.N[i]?=some x)(N:X.N[j]?=some y)(Q:X.N[k]?=some z)(B:i≠j)(C:i≠k)(A:j≠k)(G:X.env.scope.names.lookup x=some .local)(J:X.env.scope.names.lookup y=some .local)(F:X.env.scope.names.lookup z=some .local)(e:PA X [a,b,d] ta)(L:swappedStores [.Tuple [.Name x px,.Name y py,.Name z pz] kt pt] (.Tuple [a,b,d] k2 pt2) X.env=pure (some [x,y,z]))(f:autoParam (swapsWithSole [.Tuple [.Name x px,.Name y py,.Name z pz] kt pt] (.Tuple [a,b,d] k2 pt2) pos.line X.env=pure false) uR) :
 PS X (.Assign [.Tuple [.Name x px,.Name y py,.Name z pz] kt pt] (.Tuple [a,b,d] k2 pt2) pos) (Kv i j k ta):=by
 intro o s Y H D I h;rw[exec_Assign_arm];refine Ac (wpAny_standAt ?_);rw[f];refine Ac (Aj ?_);rw[if_neg 'z'];refine Ac (Tuple_ (ag (e _ o s Y H _ I h) λe l hI117=>?_));obtain⟨d,H1,I1,r1,q1⟩:=hI117;obtain⟨u,v,w,r,q1⟩:=q1;subst r;obtain⟨d,h,f,rfl,s,R,n⟩:∃d h f,e=[d,h,f]/\An u d/\An v h/\An w f:=by
  cases r1 with
  | cons p q=>
    cases q with
    | cons p' O=>
      cases O with
      | cons m e=>cases e;exact{_,_,_,rfl,p,p',m}
 refine wpAny_newObj_type ?_ (by show 3<=sizeLine;decide);have I2:Ad X o Y H1 { l with heap:=l.heap.push { cls:=.type "tuple",data:=.seq [d,h,f].toArray } }:=I1.kept (t':=l.toks) λb o e=>AH _ e
 rw[L];refine Ac (Aj ?_);show wpAny 'e' X.A (do rule "assign.swapped-stores";let items <-unpackItems (.ref l.heap.objs.size) 3 none;assignInOrder [λv=>bindName X.env z v,λv=>bindName X.env y v,λv=>bindName X.env x v] items.reverse;pure Flow.next) _ _ _;refine Ac (bc (Ac (unpackItems_tuple (items:=#[d,h,f]) (I.ok.hd P) (IsTup.new l.heap _) λh' m=>?_)));have I3:=I2.kept (h':=h') (t':=l.toks) λb o e=>m b o (Bf (Heap.lt_size e)) e
 show wpAny _ _ (assignInOrder [λv=>bindName X.env z v,λv=>bindName X.env y v,λv=>bindName X.env x v] [f,h,d] >>= λ_=>pure Flow.next) _ _ _;refine Ac (assignInOrder_cons (wpAny_bindName (cf I3 E Q (.inl F) n (λd I4=>?_) (.inr F))));refine assignInOrder_cons (wpAny_bindName (cf I4 E N (.inl J) R (λd I5=>?_) (.inr J)));refine assignInOrder_cons (wpAny_bindName (cf I5 E M (.inl G) s (λd I6=>assignInOrder_nil (Aj ?_)) (.inr G)));refine{_,H1,?_,q1};have e:((Y.set k (some w)).set j (some v)).set i (some u)=((Y.set i (some u)).set j (some v)).set k (some w):=by
  have r:(Y.set k (some w)).set j (some v)=(Y.set j (some v)).set k (some w):=List.set_comm _ _ (Ne.symm A);have d:∀τ:St,(τ.set k (some w)).set i (some u)=(τ.set i (some u)).set k (some w):=λτ=>List.set_comm _ _ (Ne.symm C)
  have f:(Y.set j (some v)).set i (some u)=(Y.set i (some u)).set j (some v):=List.set_comm _ _ (Ne.symm B);rw[r,d,f]
 rw[e] at I6;exact I6
def Jw(S:Type)(i j k:Nat)(f:A5 S):Ay S:=λZ st=>(f Z st).bind λl st1=>match l with
 | [d,e,h]=>(Az (put Z i d) st1).bind λZ1 st2=>(Az (put Z1 j e) st2).bind λZ2 st3=>(Az (put Z2 k h) st3).bind λZ3 st4=>.ok (.nx Z3) st4
 | _=>.bad
open H in
def w7{i j k:Nat}{x y z:Str}{kt h pt2}(s:X.calm=true)(C:X.N.Nodup)(A:X.N[i]?=some x)(q:X.N[j]?=some y)(u:X.N[k]?=some z)(l:i≠j)(m:i≠k)(e:j≠k)(p:X.env.scope.names.lookup x=some .local)(v:X.env.scope.names.lookup y=some .local)(n:X.env.scope.names.lookup z=some .local)(r:DB X c [a,b,d] f)(o:swappedStores [.Tuple [.Name x px,.Name y py,.Name z pz] kt pt] (.Tuple [a,b,d] h pt2) X.env=pure (some [x,y,z]))(B:autoParam (swapsWithSole [.Tuple [.Name x px,.Name y py,.Name z pz] kt pt] (.Tuple [a,b,d] h pt2) pos.line X.env=pure false) uR) :
 DS X c (.Assign [.Tuple [.Name x px,.Name y py,.Name z pz] kt pt] (.Tuple [a,b,d] h pt2) pos) (Jw S i j k f):=
 (qL s C A q u l m e p v n r o B).imp λD Y H hI40=>by
  obtain⟨Z,d,R,m,w⟩:=hI40;refine{Z,d,R,m,ak (ae.mp w) (λl f q n H1 e d s=>?_) λx f q n e l=>q n (e.f0 R) l};split at q
  ·rename_i n u f
   obtain⟨v,r,p,y,o⟩:=aa.cons.mp s;obtain⟨v',r',x,o,f⟩:=aa.cons.mp o;obtain⟨l,z,r,f,s⟩:=aa.cons.mp f;rw[x,r,aa.nil.mp s] at p;obtain⟨x,r,q⟩:=au.mp (ae.mp q);obtain⟨s,p2,q⟩:=au.mp (ae.mp q);obtain⟨x,s,q⟩:=au.mp (ae.mp q);obtain⟨B,rfl⟩:=bL r;obtain⟨x,rfl⟩:=bL p2;obtain⟨z,rfl⟩:=bL s;have r:=(R.ext m e).setB B y;have s:AW (Av c Y Z) (Av c (Y.set i (some v)) (Z.set i (.bor n))) H1 H1:=Bb.keepT (R.ext m e) d bf;have R2:=r.setB x (o.mono s);have h:AW (Av c (Y.set i (some v)) (Z.set i (.bor n))) (Av c ((Y.set i (some v)).set j (some v')) ((Z.set i (.bor n)).set j (.bor u))) H1 H1:=Bb.keepT r d bf;have i:=R2.setB z ((f.mono s).mono h);exact{v,v',l,p,q _ _ ((Ah.frm e).trans (bf.trans (bf.trans bf))) d i}
  ·exact q.elim
def Ic{S:Type}{W:Wd S}(c:Dx W):List Str->List (Fn S)->List (TE×TE)
 | k::ks,f::fs=>(tC (.str k),tD c .R f)::Ic c ks fs
 | _,_=>[]
def Gz(S:Type):List (Fn S)->A5 S
 | []=>G6 S
 | f::fs=>CD S f (Gz S fs)
theorem kF:∀(p:List Str) (o:List (Fn S)) {Y:St} {H:Hp} {Z:Ag} {r:S} {Q:List (V×V)->Hp->Prop},p.length=o.length->Ax c H Y Z->W.ok r H->
 Ab (Gz S o Z r) (λl h=>∀s i,Ah W H i->W.ok h i->aa c.K 'w' i l s->Q ((p.zip s).map λC=>(V.str C.1,C.2)) i) (λx h=>∀i,Ah W H i->W.ok h i->c.Ex x h i)->Gf (Ic c p o) Y H Q
 | [],[],Y,H,Z,r,Q,_,R,u,w=>w [] H Ah.refl u (aa.nil.mpr rfl)
 | k::p,f::o,Y,H,Z,r,Q,m,R,u,w=>by
   refine{Z,r,R,u,ak (ae.mp w) (λd A q v H1 e n z=>?_) λx A q=>q};refine kF p o (by simpa using m) (R.ext u e) n (ak (ae.mp q) (λl B q s H2 y j E=>?_) λx B q H2 y j=>q H2 (e.trans y) j);exact q (v::s) H2 (e.trans y) j (aa.cons.mpr {v,s,rfl,z.toR.ext y n,E})
 | [],_::_,_,_,_,_,_,m,_,_,_=>by cases m
 | _::_,[],_,_,_,_,_,m,_,_,_=>by cases m
def FU(x:Str):List Str->List D->Option D
 | k::ks,v::vs=>if k=x then some v else FU x ks vs
 | _,_=>none
theorem kG:∀(f d:List (As×V)),(d.map (·.1)++f.map (·.1)).Nodup->EH d f=d++f
 | [],d,_=>by show d=d++[];simp
 | (k,v)::f,d,h=>by
   have j:∀p∈d,p.1≠k:=λp i e=>by
    have:=(El.mp h).2.2 p.1 (List.mem_map_of_mem i) k 'd';exact this e
   have e:Bk d k v=d++[(k,v)]:=by
    unfold Bk;rw[if_neg];intro z;obtain⟨p,i,l⟩:=List.any_eq_true.mp z;exact j p i (by simpa using l)
   show EH (Bk d k v) f=_;rw[e,kG f (d++[(k,v)]) (by simpa using h)];simp
instance DKV(X:Cx){S:Type}{W:Wd S}(c:Dx W)(pos:Pos)(keys:List (Option Expr))(values:List Expr)(ks:List Str)(fs:List (Fn S)):Prop:=PPs X pos keys values (Ic c ks fs)/\ks.length=fs.length
def w8:DKV X c pos [] [] [] ([]:List (Fn S)):=⟨gi,rfl⟩
def xa{k:Str}{j}(e:DE X c .R v f)(h:DKV X c pos keys values d fs):DKV X c pos (some (.Constant (.str k) j p)::keys) (v::values) (k::d) (f::fs):=
 {eH bR e h.1,by simp[h.2]}
def Jx(S:Type)(ks:List Str)(fs:List (Fn S))(fk:Fn S):Fn S:=λZ st=>(Gz S fs Z st).bind λl st1=>(fk Z st1).bind λd st2=>match d with
 | .str x=>if D.immL l=true then Az (FU x ks l) st2 else .bad
 | _=>.bad
theorem kH{K:FG}{A:Addr->Prop}{H:Hp}{x:Str}:∀{f:List Str} {l:List D} {j:List V} {d:D},FU x f l=some d->aa K A H l j->D.immL l=true->∃v,BY ((f.zip j).map λi=>((Sum.inr i.1:As),i.2)) (Sum.inr x:As)=some v/\Is K A H d v/\d.imm=true
 | [],l,j,d,e,_,_=>by cases l<;>cases e
 | k::f,[],j,d,e,_,_=>by cases e
 | k::f,y::l,j,d,e,h,m=>by
   obtain⟨v,r,d,p,o⟩:=aa.cons.mp h;subst d;have n:y.imm=true/\D.immL l=true:=by simpa [D.immL] using m
   unfold FU at e;by_cases d:k=x
   ·rw[if_pos d] at e;cases e
    subst d;exact{v,cx rfl,p,n.1}
   ·rw[if_neg d] at e
    obtain⟨v',h,l,m⟩:=kH e o n.2;refine{v',?_,l,m};show BY (((Sum.inr k:As),v)::(f.zip r).map λi=>((Sum.inr i.1:As),i.2)) (Sum.inr x:As)=_;rw[cy (λz=>d (Sum.inr.inj z))];exact h
theorem kI:∀{d:List Str} {i:List V},d.Nodup->((d.zip i).map ((λx=>x.1) ∘ λf=>((Sum.inr f.1:As),f.2))).Nodup
 | [],_,_=>by simp
 | k::d,[],_=>by simp
 | k::d,v::i,h=>by
   obtain⟨n,m⟩:=Dk.mp h;show ((Sum.inr k:As)::(d.zip i).map ((λx=>x.1) ∘ λf=>((Sum.inr f.1:As),f.2))).Nodup;refine Dk.mpr {λl=>?_,kI m};obtain⟨⟨a,b⟩,j,e⟩:=Cv.mp l;have e:a=k:=Sum.inr.inj e;subst e;exact n (List.of_mem_zip j).1
open H in
def xb(hu:X.A.units+2<cLine)(h:DKV X c dpos keys values j fs)(J:keys.all (·.isSome)=true)(hl:keys.length=values.length)(h0:keys≠[])(U:keys.length<=15)(hks:j.length<=15)(hnd:j.Nodup)(hk:DE X c ga k fk)(hs:Ge k):DE X c g (.Subscript (.Dict keys values dpos) k pos) (Jx S j fs fk):=
 (cD hu (js h.1 J hl h0 U) hk hs).imp λY H Q hI41=>by
  obtain⟨Z,st,R,O,w⟩:=hI41;intro p I;have P:¬W.mv p:=bH O I;refine kF j fs h.2 (R.ext O (Ah.laid I)) (aY O I) (ak (ae.mp w) (λl s q C H2 N n z2=>?_) λx s q H2 N n=>q H2 ((Ah.laid I).trans N) n);have E:H2 p=some (.dK []):=N p _ aw P;refine{E,(j.zip C).map λi=>((Sum.inr i.1:As),i.2),by rw[Cf];rfl,by rw[Ai,List.length_zip];omega,?_};have mk:EH [] ((j.zip C).map λi=>((Sum.inr i.1:As),i.2))=(j.zip C).map λi=>((Sum.inr i.1:As),i.2):=by
   rw[kG _ []]
   ·rfl
   ·show (((j.zip C).map λi=>((Sum.inr i.1:As),i.2)).map (·.1)).Nodup
    rw[Cf];exact kI hnd
  rw[mk];have L:Ah W H (Af H2 p (.dK ((j.zip C).map λi=>((Sum.inr i.1:As),i.2)))):=λb o hb nm=>by
   have M:b≠p:=aF hb I;rw[aj M];exact N b o (by rw[aj M];exact hb) nm
  have G:=bv (o:=.dK ((j.zip C).map λi=>((Sum.inr i.1:As),i.2))) n P E;have R3:=R.ext O L;refine{Z,s,R3,G,ak (ae.mp q) (λd T q v B F r z4=>?_) λx T q B F r=>q B (L.trans F) r};split at q
  ·rename_i x
   split at q
   ·rename_i im
    obtain⟨dd,e5,q⟩:=au.mp q;have k1:AW (λ_=>False) (λb=>¬W.mv b/\H b=Option.none) H2 B:={λb u e sy=>by
     have M:b≠p:=λz=>by
      subst z;rw[E] at e;cases e;rcases sy with⟨_,y⟩ | ⟨_,_,y⟩<;>cases y
     refine F b _ (by rw[aj M];exact e) λm=>?_
     obtain⟨o',h',n1,n2⟩:=W.live s H2 b n m;rw[e] at h';cases h';rcases sy with⟨y,z⟩ | ⟨y1,y2,z⟩
     ·exact n1 y z
     ·exact n2 y1 y2 z,λb o f=>f.elim}
    have z3:aa c.K (λ_=>False) H2 l C:=aa.ofImm im z2;obtain⟨v',g1,g2,g3⟩:=kH e5 (z3.mono k1) im;have zx:Is c.K 'w' B (.str x) v:=z4.toR;refine{p,v',rfl,?_,q v' B (L.trans F) r ((AE.val (R3.ext G F) (show AE c B B dd v' from Is.ofImm g3 g2) g).back (L.trans F) r)};rw[Is.str_iff.mp zx,<-g1];exact BB.k (k:=(Sum.inr x:As)) (F p _ aw P)
   ·exact q.elim
  ·exact q.elim
def xc{A:Around}{k:Nat}(d:Bc k A):A.in1.units+2<cLine:=by
 have:=d.units;show A.units+1+2<cLine;omega
def xf(f:X.A.units+2<cLine)(e:DE X c ga a fa)(h:DE X c gb b fb)(d:autoParam (behindInMarks .NotIn b=false) uR):DT X c (.Compare a [.NotIn] [b] pos) (fB S (f2 S (Ds true) fa fb)):=
 (iQ (pb f e h) d).imp λY H Q q=>by
  have d:tB (tD c .R (f2 S (Ds true) fa fb)) Y H Q:=dU q;exact gz (ga:=ga) (gb:=gb) d
end
abbrev Dr:=List Int×Int
def DY(l:Addr)(t:Int):List (As×V):=[(Sum.inr "cells",.ref l),(Sum.inr "turn",.int t)]
instance WdS(p l:Addr):Wd Dr where
 ok:=λst H=>H p=some (.dK (DY l st.2))/\H l=some (.lst (st.1.map V.int))/\st.1≠[]/\st.1.length<=63/\0<=st.2
 mv:=λb=>b=p\/b=l
 h:=.ref p
 stay:=λst H H' ⟨a,b,c⟩ k _=>{k p _ (.inl rfl) a,k l _ (.inr rfl) b,c}
 live:=λst H b hI42 m=>by
  obtain⟨a,c,_⟩:=hI42;rcases m with m | m
  ·subst m;exact{_,a,(λu z=>by cases z),λob u z=>by cases z}
  ·subst m;exact{_,c,(λu z=>by cases z),λob u z=>by cases z}
def FV(cell turn:Int):Int:=(cell % 2147483629+turn*turn*7919+11)*48271 % 2147483647
def Jy(cell turn:Int):Int:=FV cell turn*FV cell turn % 2147483587
def Jz(cell turn:Int):Int:=(Jy cell turn+turn*104729)*39373 % 2147483629 / 64
def B5(st:Dr):Nat:=((st.2+1) % (st.1.length:Int)).toNat
def By(l:List D)(st:Dr):Ap Dr D:=match l with
 | [.int many]=>if 0<many/\many<1073741824/\st.2<2 ^ 40 then
  (if 1000000000000000000<=st.1.getD (B5 st) 0 then .ok (.int (st.1.getD (B5 st) 0 % many)) (st.1.set (B5 st) (st.1.getD (B5 st) 0 / many),st.2+1)
   else .ok (.int (Jz (st.1.getD (B5 st) 0) (st.2+1) % many)) (st.1,st.2+1)) else .bad
 | _=>.bad
def gD:¬((Sum.inr ("cells" : Str)):As)=Sum.inr ("turn" : Str):=by decide +kernel
def qM{t:Int}:BY (DY l t) (Sum.inr "cells" : As)=some (.ref l):=by
 unfold DY;exact cx rfl
def kJ{t:Int}:BY (DY l t) (Sum.inr "turn" : As)=some (.int t):=by
 unfold DY;rw[cy (λz=>gD z)];exact cx rfl
def qN{t u:Int}:Bk (DY l t) (Sum.inr "turn" : As) (.int u)=DY l u:=by
 unfold Bk;rw[dP,kJ];refine(if_pos (show (some (V.int t)).isSome=true from rfl)).trans ?_;unfold DY;simp only[Be,Da];rw[if_neg (λz=>gD z)];simp
structure Bn(mg:Str->Option Value):Prop where
 len:mg "len" = none
 divmod:mg "divmod" = none
 list:mg "list" = none
 tuple:mg "tuple" = none
 int:mg "int" = none
 bool:mg "bool" = none
 str:mg "str" = none
 dict:mg "dict" = none
 isinstance:mg "isinstance" = none
 all:mg "all" = none
 any:mg "any" = none
 sum:mg "sum" = none
 zip:mg "zip" = none
 enumerate:mg "enumerate" = none
 range:mg "range" = none
 sorted:mg "sorted" = none
 min:mg "min" = none
 max:mg "max" = none
 abs:mg "abs" = none
 reversed:mg "reversed" = none
 set:mg "set" = none
def EO(ns:List Int):List Int:=if ns=[] then [7] else ns
def Ie(K:FG):Sp:=λvs H Q _=>∃(a:Addr) (ns:List Int),vs=[.ref a]/\AT K H a 'k'/\ns.length<=63/\
 ∀(p l:Addr) (H':Hp),Ch H H'->H p=none->H l=none->H' p=some (.dK (DY l 0))->H' l=some (.lst ((EO ns).map V.int))->Q (.ref p) H'
def qO{ns:List Int}(h:ns.length<=63):D3 'k' none (some 63)=ns.map V.int:=by
 unfold D3;have e:HT.sIx 'k'.length 'k'.length (some 63)='k'.length:=by
  have:HT.sIx 'k'.length 'k'.length (some ((63:Nat):Int))=min 63 'k'.length:=HT.sIx_nat _ _ _;rw[show ((63:Nat):Int)=(63:Int) from rfl] at this;rw[this,Ai];omega
 rw[e];show ('k'.drop 0).take ('k'.length-0)=_;rw[Fp,Nat.sub_zero,Ck]
theorem kK{K:FG}{A:Addr->Prop}{H:Hp}:∀ns:List Int,aa K A H (ns.map D.int) 'k'
 | []=>aa.nil.mpr rfl
 | n::ns=>aa.cons.mpr {_,_,rfl,Is.int_iff.mpr rfl,kK ns}
theorem kL:∀ns:List Int,D.depL (ns.map D.int)<=1
 | []=>by simp[D.depL]
 | n::ns=>by
   have:=kL ns;simp only[Be,D.depL,D.dep];omega
def gE(ns:List Int):D.dep (.lst (ns.map D.int))<=30:=by
 have:=kL ns;simp only[D.dep];omega
def qP:EH [] [((Sum.inr "cells" : As),.ref l),((Sum.inr "turn" : As),.int 0)]=DY l 0:=by
 show Bk (Bk [] (Sum.inr "cells" : As) (.ref l)) (Sum.inr "turn" : As) (.int 0)=_;have a:Bk [] (Sum.inr "cells" : As) (.ref l)=[((Sum.inr "cells" : As),.ref l)]:=rfl;rw[a];unfold Bk;rw[dP,cy (λz=>gD z)];rfl
instance spLaw(K:FG):Sp:=λvs H Q _=>∃(a:Addr) (ns:List Int),vs=[.ref a]/\AT K H a 'k'/\ns.length<=63/\∀H',Q (.bl true) H'
def Bu(n:Nat):Ag:=.no::.hnd::List.replicate (n-2) .no
instance exL{X:Cx}(K:FG)(F:Ay Dr):TS:=λD Y H=>∃p l,tS (cxS (WdS p l) K (λ_=>none)) F D Y H
def qQ{X:Cx}{K:FG}{a:List Stmt}{F:Ay Dr}(h:∀p l,CM X (cxS (WdS p l) K (λ_=>none)) a F):Cm X a (exL (X:=X) K F):=λa s Y H D I ⟨p,l,q⟩=>h p l a s Y H D I q
def qR{K:FG}{H:Hp}{p l a:Addr}{m:Nat}:Ax (cxS (WdS p l) K (λ_=>none)) H (some (.ref a)::some (.ref p)::List.replicate m none) (Bu (m+2)) where
 len:=by simp[Bu]
 frame:=λb o e=>by cases e
 slot:=λi s h=>by
  unfold Bu at h
  match i with
  | 0=>cases h;trivial
  | 1=>cases h;rfl
  | i+2=>
    have h:(List.replicate (m+2-2) Sl.no)[i]?=some s:=by simpa using h
    rw[List.getElem?_replicate] at h;split at h
    ·cases h;trivial
    ·cases h
 avl:=λb h=>h.elim
 uniq:=λi j b d e a c _ _=>by
  unfold Bu at a
  match i with
  | 0=>cases a
  | 1=>cases a
  | i+2=>
    have a:(List.replicate (m+2-2) Sl.no)[i]?=some (.own d):=by simpa using a
    rw[List.getElem?_replicate] at a;split at a
    ·cases a
    ·cases a
section
variable{S α β:Type}{E:AM->S->Prop}{st:S}
open H in
def aQ(h:∀d a,Ab (k d a) Q E↔P d a):Ab (r.bind k) Q E↔Ab r P E:=by
 rw[ae];exact iff_of_eq (congrArg (λz=>Ab r z E) (funext λd=>funext λa=>propext (h d a)))
def cI{P:α->Prop}{a:α}{R:Prop}(k:R↔P a):R↔∃b,some a=some b/\P b:={λq=>{a,rfl,k.mp q},λh=>by obtain⟨_,e,q⟩:=h;cases e;exact k.mpr q}
def cJ{P:α->Prop}:False↔∃b,(none:Option α)=some b/\P b:={False.elim,λh=>by obtain⟨_,e,q⟩:=h;cases e}
def gG{P:Bool->Prop}{a:Bool}{R:Prop}(k:R↔P a):R↔∃b,D.bl a=.bl b/\P b:={λq=>{a,rfl,k.mp q},λh=>by obtain⟨_,e,q⟩:=h;cases e;exact k.mpr q}
def qS{P:Int->Prop}{a:Int}{R:Prop}(k:R↔P a):R↔∃b,D.int a=.int b/\P b:={λq=>{a,rfl,k.mp q},λh=>by obtain⟨_,e,q⟩:=h;cases e;exact k.mpr q}
def qT{P:Str->Prop}{a:Str}{R:Prop}(k:R↔P a):R↔∃b,D.str a=.str b/\P b:={λq=>{a,rfl,k.mp q},λh=>by obtain⟨_,e,q⟩:=h;cases e;exact k.mpr q}
def bT{c:β->α}{d:α}{P:β->Prop}(h:∀b,d=c b->False):False↔∃b,d=c b/\P b:={False.elim,λg=>by obtain⟨b,e,_⟩:=g;exact h b e}
def gH{γ:Type}{c:β->α}{d:α}{P:β->γ->Prop}(h:∀b,d=c b->False):False↔∃b g,d=c b/\P b g:={False.elim,λg=>by obtain⟨b,_,e,_⟩:=g;exact h b e}
def gI{γ:Type}{P:Int->γ->Prop}{a:Int}{R:Prop}(k:R↔∃g,P a g):R↔∃b g,D.int a=.int b/\P b g:={λh=>by obtain⟨g,q⟩:=k.mp h;exact⟨a,g,rfl,q⟩,λh=>by obtain⟨_,g,e,q⟩:=h;cases e;exact k.mpr ⟨g,q⟩}
def eW{c:Prop}[Decidable c]:Ab (if c then r else .bad) Q E↔c/\Ab r Q E:=by
 by_cases h:c
 ·rw[if_pos h];exact{λq=>⟨h,q⟩,λq=>q.2}
 ·rw[if_neg h];exact{λq=>q.elim,λq=>h q.1}
def eX:Ab ((Az o st).bind λa b=>Ap.ok (Fl.nx a) b) Q E↔∃a,o=some a/\Q (.nx a) st:=by rw[ae,au];exact Iff.rfl
def eY{o:Option Ag}{k:Ag->S->Ap S β}{Q:β->S->Prop}{P:Ag->Prop}(h:∀a,Ab (k a st) Q E↔P a):Ab ((Az o st).bind k) Q E↔∃a,o=some a/\P a:=by
 rw[ae,au];exact exists_congr λa=>and_congr Iff.rfl (h a)
end
def qU{d:D}{b:Bool}:d.bool?=some b↔d=.bl b:=by
 cases d with
 | bl a=>exact{λe=>congrArg D.bl (Option.some.inj e),λe=>congrArg D.bool? e}
 | _=>exact{λe=>(by cases e),λe=>(by cases e)}
def int_iff{d:D}{b:Int}:d.int?=some b↔d=.int b:=by
 cases d with
 | int a=>exact{λe=>congrArg D.int (Option.some.inj e),λe=>congrArg D.int? e}
 | _=>exact{λe=>(by cases e),λe=>(by cases e)}
section
variable{S:Type}{E:AM->S->Prop}{Z:Ag}{st:S}
section
variable{Q:D->S->Prop}{f f1 f2' f3 fk:Fn S}
def wp_fAndV:Ab (Jr S f1 f2' Z st) Q E↔Ab (f1 Z st) (λd a=>∃b,d=.bl b/\(if b=true then Ab (f2' Z a) Q E else Q (.bl false) a)) E:=aQ λd a=>by
 cases d with
 | bl b=>cases b<;>exact gG Iff.rfl
 | _=>exact bT λb e=>by cases e
def eZ:Ab (Ks S f1 f2' Z st) Q E↔Ab (f1 Z st) (λd a=>∃b,d=.bl b/\(if b=true then Q (.bl true) a else Ab (f2' Z a) Q E)) E:=aQ λd a=>by
 cases d with
 | bl b=>cases b<;>exact gG Iff.rfl
 | _=>exact bT λb e=>by cases e
def wp_fNotV:Ab (Kt S f Z st) Q E↔Ab (f Z st) (λd a=>∃b,d=.bl b/\Q (.bl (!b)) a) E:=aQ λd a=>by
 cases d with
 | bl b=>exact gG Iff.rfl
 | _=>exact bT λb e=>by cases e
def wp_fNeg:Ab (Js S f Z st) Q E↔Ab (f Z st) (λd a=>∃i,d=.int i/\Q (.int (-i)) a) E:=aQ λd a=>by
 cases d with
 | int b=>exact qS Iff.rfl
 | _=>exact bT λb e=>by cases e
def wp_pSo{Q:Option Int->S->Prop}:Ab (pSo S f Z st) Q E↔Ab (f Z st) (λd a=>∃i,d=.int i/\Q (some i) a) E:=aQ λd a=>by
 rw[ae,au];exact exists_congr λi=>and_congr int_iff Iff.rfl
def wp_fB{Q:Bool->S->Prop}:Ab (fB S f Z st) Q E↔Ab (f Z st) (λd a=>∃b,d=.bl b/\Q b a) E:=aQ λd a=>by
 rw[au];exact exists_congr λi=>and_congr qU Iff.rfl
def wp_fDisp{c:List Str}{b:List (Fn S)}:Ab (Jx S c b fk Z st) Q E↔Ab (Gz S b Z st) (λl a=>Ab (fk Z a) (λd b=>∃x,d=.str x/\D.immL l=true/\Ab (Az (FU x c l) b) Q E) E) E:=aQ λl a=>aQ λd b=>by
 cases d with
 | str x=>exact qT eW
 | _=>exact bT λb e=>by cases e
def qV{r:Option D}{a d:Ap S D}:Ab (match r with
 | some (.bl true)=>a
 | some (.bl false)=>d
 | _=>.bad) Q E↔∃b,r=some (.bl b)/\(if b=true then Ab a Q E else Ab d Q E):=by
 cases r with
 | none=>exact bT (c:=λb=>some (D.bl b)) λb e=>by cases e
 | some d=>cases d with
   | bl b=>cases b<;>exact{λq=>{_,rfl,q},λh=>by obtain⟨_,e,q⟩:=h;cases e;exact q}
   | _=>exact bT (c:=λb=>some (D.bl b)) λb e=>by cases e
def wp_fChain{o o':D->D->Option D}:Ab (Gm S o o' f1 f2' f3 Z st) Q E↔Ab (f1 Z st) (λe c=>Ab (f2' Z c) (λd a=>∃b,o e d=some (.bl b)/\(if b=true then Ab (f3 Z a) (λg b=>Ab (Az (o' d g) b) Q E) E else Q (.bl false) a)) E) E:=aQ λe c=>aQ λd a=>by
 refine qV.trans ?_;rw[ae];exact Iff.rfl
end
section
variable{Q:Fl->S->Prop}{F G B:Ay S}{t:AV S}{f fk fv:Fn S}{i j k:Nat}
def wp_sAug{o:Int->Int->Int}:Ab (Hd S i f o Z st) Q E↔∃a,rd Z i=some (.int a)/\Ab (f Z st) (λd g=>∃b e,d=.int b/\put Z i (.int (o a b))=some e/\Q (.nx e) g) E:=by
 unfold Hd;cases rd Z i with
 | none=>exact bT (c:=λb=>some (D.int b)) λb e=>by cases e
 | some d=>cases d with
   | int a=>
     refine(aQ λd g=>?_).trans {λq=>⟨a,rfl,q⟩,λh=>by obtain⟨_,e,q⟩:=h;cases e;exact q};cases d with
     | int b=>exact gI eX
     | _=>exact gH λb e=>by cases e
   | _=>exact bT (c:=λb=>some (D.int b)) λb e=>by cases e
def wp_sMt{o:List D->D->Option (List D)}:Ab (sMt S i o f Z st) Q E↔∃l,AF Z i=some l/\Ab (f Z st) (λd a=>∃b,o l d=some b/\Q (.nx (Z.set i (.own (.lst b)))) a) E:=by
 unfold sMt;cases AF Z i with
 | none=>exact cJ
 | some l=>
   refine cI (aQ λd a=>?_);rw[ae,au];exact Iff.rfl
def wp_sItem:Ab (Ju S i fk fv Z st) Q E↔Ab (fv Z st) (λv a=>∃l,AF Z i=some l/\Ab (fk Z a) (λd b=>∃j n,d=.int j/\B3 l.length j=some n/\v.imm=true/\Q (.nx (Z.set i (.own (.lst (l.set n v))))) b) E) E:=aQ λv a=>by
 cases AF Z i with
 | none=>exact cJ
 | some l=>
   refine cI (aQ λd b=>?_);cases d with
   | int j=>
     refine gI ?_;dsimp only;cases B3 l.length j with
     | none=>exact cJ
     | some n=>exact cI eW
   | _=>exact gH λb e=>by cases e
def wp_sDPut:Ab (Jt S i fk fv Z st) Q E↔Ab (fv Z st) (λv c=>∃a b,BL Z i=some (a,b)/\Ab (fk Z c) (λd g=>∃m,AG d=some m/\v.imm=true/\a.length<sizeLine/\Q (.nx (Z.set i (.own (.dct (.non::(AY m v a b).1) (AY m v a b).2)))) g) E) E:=aQ λv c=>by
 cases BL Z i with
 | none=>exact{False.elim,λh=>by obtain⟨_,_,e,_⟩:=h;cases e}
 | some l=>
   obtain⟨a,b⟩:=l;refine(aQ λd g=>?_).trans {λq=>⟨a,b,rfl,q⟩,λh=>by obtain⟨_,_,e,q⟩:=h;cases e;exact q};cases AG d with
   | none=>exact cJ
   | some m=>exact cI (eW.trans and_assoc)
def wp_sPar{b:A5 S}:Ab (Jv S i j b Z st) Q E↔Ab (b Z st) (λl a=>match l with
 | [d,e]=>∃c,put Z i d=some c/\∃b,put c j e=some b/\Q (.nx b) a
 | _=>False) E:=aQ λl a=>by
 match l with
 | []=>exact Iff.rfl
 | [_]=>exact Iff.rfl
 | [d,e]=>exact eY λ_=>eX
 | _::_::_::_=>exact Iff.rfl
def wp_sPar3{b:A5 S}:Ab (Jw S i j k b Z st) Q E↔Ab (b Z st) (λl a=>match l with
 | [d,e,h]=>∃g,put Z i d=some g/\∃b,put g j e=some b/\∃c,put b k h=some c/\Q (.nx c) a
 | _=>False) E:=aQ λl a=>by
 match l with
 | []=>exact Iff.rfl
 | [_]=>exact Iff.rfl
 | [_,_]=>exact Iff.rfl
 | [d,e,h]=>exact eY λ_=>eY λ_=>eX
 | _::_::_::_::_=>exact Iff.rfl
end
end
section
variable{S α β:Type}{Q:α->S->Prop}{E:AM->S->Prop}{Z:Ag}{st:S}
def wp_ok{a:α}:Ab (Ap.ok a st) Q E↔Q a st:=Iff.rfl
def wp_bad:Ab (Ap.bad:Ap S α) Q E↔False:=Iff.rfl
def wp_some{a:α}:Ab (Az (some a) st) Q E↔Q a st:=Iff.rfl
def wp_none:Ab (Az (none:Option α) st) Q E↔False:=Iff.rfl
end
section
variable{S:Type}{E:AM->S->Prop}{Z:Ag}{st:S}
variable{Q:Fl->S->Prop}{F G B:Ay S}{t:AV S}{f:Fn S}{i j:Nat}
def ax:Ab (FQ S F G Z st) Q E↔Ab (F Z st) (λb a=>match b with
 | .nx c=>Ab (G c a) Q E
 | .rt d=>Q (.rt d) a
 | .bk r=>Q (.bk r) a
 | .ct r=>Q (.ct r) a) E:=by
 unfold FQ;rw[ae];cases F Z st with
 | bad=>exact Iff.rfl
 | exc x s=>exact Iff.rfl
 | ok b s=>cases b<;>exact Iff.rfl
def wp_sNil:Ab (Jm S Z st) Q E↔Q (.nx Z) st:=Iff.rfl
def wp_sSet:Ab (Gh S i f Z st) Q E↔Ab (f Z st) (λd a=>∃b,putN Z i d=some b/\Q (.nx b) a) E:=by
 unfold Gh;rw[ae];have:∀d a,Ab ((Az (putN Z i d) a).bind λe c=>Ap.ok (Fl.nx e) c) Q E↔∃b,putN Z i d=some b/\Q (.nx b) a:=λd a=>by rw[ae,au];exact Iff.rfl
 simp only[this]
def wp_sSetB:Ab (Gi S i f Z st) Q E↔Ab (f Z st) (λd a=>∃b,put Z i d=some b/\Q (.nx b) a) E:=by
 unfold Gi;rw[ae];have:∀d a,Ab ((Az (put Z i d) a).bind λe c=>Ap.ok (Fl.nx e) c) Q E↔∃b,put Z i d=some b/\Q (.nx b) a:=λd a=>by rw[ae,au];exact Iff.rfl
 simp only[this]
def wp_sAsg{g:BD}:Ab (HQ S g f Z st) Q E↔Ab (f Z st) (λd a=>∃b,g d Z=some b/\Q (.nx b) a) E:=by
 unfold HQ;rw[ae];have:∀d a,Ab ((Az (g d Z) a).bind λe c=>Ap.ok (Fl.nx e) c) Q E↔∃b,g d Z=some b/\Q (.nx b) a:=λd a=>by rw[ae,au];exact Iff.rfl
 simp only[this]
open H in
def wp_sIf:Ab (sIf S t F G Z st) Q E↔Ab (t Z st) (λb a=>if b=true then Ab (F Z a) Q E else Ab (G Z a) Q E) E:=by
 unfold sIf;rw[ae];refine iff_of_eq (congrArg (λz=>Ab (t Z st) z E) (funext λb=>funext λa=>propext ?_));cases b<;>exact Iff.rfl
open H in
def wp_sRet:Ab (HN S f Z st) Q E↔Ab (f Z st) (λd a=>(d.imm=true\/d.flat=true)/\Q (.rt d) a) E:=by
 unfold HN;rw[ae];refine iff_of_eq (congrArg (λz=>Ab (f Z st) z E) (funext λb=>funext λa=>propext ?_));by_cases h:b.imm=true\/b.flat=true
 ·rw[if_pos h];exact{λq=>⟨h,q⟩,λq=>q.2}
 ·rw[if_neg h];exact{λq=>q.elim,λq=>h q.1}
def wp_sRetV:Ab (HP S i Z st) Q E↔∃d,own? Z i=some d/\Q (.rt d) st:=by
 unfold HP;rw[ae,au];exact Iff.rfl
def e6:Ab (Jn S f Z st) Q E↔Ab (f Z st) (λ_ a=>Q (.nx Z) a) E:=by unfold Jn;rw[ae];exact Iff.rfl
def wp_sFor{a:List Nat}{b:Es S}{g:BD}:Ab (HS S a b g B Z st) Q E↔Ab (b (frz a Z) st) (λl b=>Ab (Dp S g B l (frz a Z) b) Q E) E:=by unfold HS;rw[ae]
def e8:Ab (Ko S Z st) Q E↔Q (.rt .non) st:=Iff.rfl
def e9:Ab (Kp S Z st) Q E↔Q (.bk Z) st:=Iff.rfl
def fe:Ab (Kq S Z st) Q E↔Q (.ct Z) st:=Iff.rfl
def wp_sBad:Ab (Ku S Z st) Q E↔False:=Iff.rfl
theorem gJ(I:Nat->Ag->S->Prop):∀{l:List D} {Z:Ag} {st:S} (n:Nat),I n Z st->
 (∀i d Z st,l[i]?=some d->I (n+i) Z st->∃h,g d Z=some h/\Ab (B h st) (λc a=>match c with
  | .nx b=>I (n+i+1) b a
  | .ct b=>I (n+i+1) b a
  | .bk b=>Q (.nx b) a
  | .rt d=>Q (.rt d) a) E)->(∀Z st,I (n+l.length) Z st->Q (.nx Z) st)->Ab (Dp S g B l Z st) Q E
 | [],Z,st,n,e,_,m=>m Z st e
 | d::l,Z,st,n,e,o,m=>by
   obtain⟨h,p,q⟩:=o 0 d Z st rfl e;unfold Dp;rw[p];refine ae.mpr (wp_some.mpr (ae.mpr (ak q (λc a z=>?_) λx a z=>z)));have e:∀b,I (n+1) b a->Ab (Dp S g B l b a) Q E:=λb z=>gJ I (n+1) z (λi d Z st h a=>by
    have:=o (i+1) d Z st (by simpa using h) (by rw[show n+(i+1)=n+1+i by omega];exact a);rw[show n+(i+1)=n+1+i by omega] at this;exact this) λZ st h=>m Z st (by rw[B1,show n+(l.length+1)=n+1+l.length by omega];exact h)
   cases c with
   | nx b=>exact e b z
   | ct b=>exact e b z
   | bk b=>exact z
   | rt d=>exact z
end
section
variable{S:Type}{E:AM->S->Prop}{Z:Ag}{st:S}{Q:D->S->Prop}{f f1 f2' f3:Fn S}{i:Nat}{t:AV S}
def wp_fC{d:D}:Ab (fC S d Z st) Q E↔Q d st:=Iff.rfl
def wp_fV:Ab (fV S i Z st) Q E↔Ab (Az (rd Z i) st) Q E:=Iff.rfl
def wp_fVk:Ab (fVk S i Z st) Q E↔Ab (Az (kp Z i) st) Q E:=Iff.rfl
open H in
def wp_fI:Ab (fI S f Z st) Q E↔Ab (f Z st) (λd a=>d.imm=true/\Q d a) E:=by
 unfold fI;rw[ae];refine iff_of_eq (congrArg (λz=>Ab (f Z st) z E) (funext λb=>funext λa=>propext ?_));by_cases h:b.imm=true
 ·rw[if_pos h];exact{λq=>⟨h,q⟩,λq=>q.2}
 ·rw[if_neg h];exact{λq=>q.elim,λq=>h q.1}
def wp_f2{o:D->D->Option D}:Ab (f2 S o f1 f2' Z st) Q E↔Ab (f1 Z st) (λd a=>Ab (f2' Z a) (λc b=>Ab (Az (o d c) b) Q E) E) E:=by
 unfold f2;rw[ae];simp only[ae]
def wp_fA{o:List D->Option D}{b:A5 S}:Ab (fA S o b Z st) Q E↔Ab (b Z st) (λl a=>Ab (Az (o l) a) Q E) E:=by unfold fA;rw[ae]
def wp_aNil{Q:List D->S->Prop}:Ab (G6 S Z st) Q E↔Q [] st:=Iff.rfl
def wp_aCons{Q:List D->S->Prop}{r:A5 S}:Ab (CD S f r Z st) Q E↔Ab (f Z st) (λd a=>Ab (r Z a) (λl b=>Q (d::l) b) E) E:=by
 unfold CD;rw[ae];simp only[ae];exact Iff.rfl
open H in
def wp_fCall{F:List D->Ap Unit D}{b:A5 S}:Ab (G7 S F b Z st) Q E↔Ab (b Z st) (λl a=>Ab (F l) (λd _=>Q d a) λ_ _=>False) E:=by
 unfold G7;rw[ae];refine iff_of_eq (congrArg (λz=>Ab (b Z st) z E) (funext λb=>funext λa=>propext ?_));cases F b<;>exact Iff.rfl
open H in
def wp_fCallS{F:List D->S->Ap S D}{c:A5 S}:Ab (Gg S F i c Z st) Q E↔Z[i]?=some .hnd/\Ab (c Z st) (λl a=>Ab (F l a) Q λ_ _=>False) E:=by
 unfold Gg;split
 ·rename_i h
  rw[ae];have:∀b a,Ab (match F b a with
   | .ok d e=>Ap.ok d e
   | _=>Ap.bad) Q E↔Ab (F b a) Q λ_ _=>False:=λb a=>by cases F b a<;>exact Iff.rfl
  refine(iff_of_eq (congrArg (λz=>Ab (c Z st) z E) (funext λd=>funext λa=>propext (this d a)))).trans ?_;exact{λq=>⟨h,q⟩,λq=>q.2}
 ·rename_i h
  exact{λq=>q.elim,λq=>h q.1}
def ff{T:Bt}:Ab (fIs S T f Z st) Q E↔Ab (f Z st) (λd a=>Q (.bl (isI T d)) a) E:=by unfold fIs;rw[ae];exact Iff.rfl
open H in
def wp_fIfE:Ab (HZ S t f1 f2' Z st) Q E↔Ab (t Z st) (λb a=>if b=true then Ab (f1 Z a) Q E else Ab (f2' Z a) Q E) E:=by
 unfold HZ;rw[ae];refine iff_of_eq (congrArg (λz=>Ab (t Z st) z E) (funext λb=>funext λa=>propext ?_));cases b<;>exact Iff.rfl
def wp_fCut{c e:FnO S}:Ab (Ia S f c e Z st) Q E↔Ab (f Z st) (λd a=>Ab (c Z a) (λl b=>Ab (e Z b) (λh a=>Ab (Az (Ez l h d) a) Q E) E) E) E:=by
 unfold Ia;rw[ae];simp only[ae]
def wp_pNo{Q:Option Int->S->Prop}:Ab (pNo S Z st) Q E↔Q none st:=Iff.rfl
def wp_iSeq{Q:List D->S->Prop}{a:D->Option (List D)}:Ab (Ew S a f Z st) Q E↔Ab (f Z st) (λd b=>Ab (Az (a d) b) Q E) E:=by unfold Ew;rw[ae]
def wp_iArgs{Q:List D->S->Prop}{o:List D->Option (List D)}{b:A5 S}:Ab (Fu S o b Z st) Q E↔Ab (b Z st) (λl a=>Ab (Az (o l) a) Q E) E:=by unfold Fu;rw[ae]
def wp_fComp{a:List Nat}{ixs:List (Option Nat)}{b:Es S}{g:BD}:Ab (Gj S a ixs b g t f Z st) Q E↔Ab (b (frz a Z) st) (λl b=>Ab (DM S g t f l [] (AO (frz a Z) ixs) b) (λr a=>Q (.lst r) a) E) E:=by
 unfold Gj;rw[ae];simp only[ae];exact Iff.rfl
theorem di{g:BD}{Q:List D->S->Prop}(I:Nat->List D->Ag->S->Prop):∀{l a:List D} {Z:Ag} {st:S} (n:Nat),I n a Z st->
 (∀i d a Z st,l[i]?=some d->I (n+i) a Z st->∃e,g d Z=some e/\Ab (t e st) (λb c=>if b=true then Ab (f e c) (λy j=>y.imm=true/\a.length<sizeLine/\I (n+i+1) (a++[y]) e j) E else I (n+i+1) a e c) E)->
 (∀a Z st,I (n+l.length) a Z st->Q a st)->Ab (DM S g t f l a Z st) Q E
 | [],a,Z,st,n,h,_,m=>m a Z st h
 | d::l,a,Z,st,n,h,o,m=>by
   obtain⟨e,r,q⟩:=o 0 d a Z st rfl h;have p:∀a c,I (n+1) a e c->Ab (DM S g t f l a e c) Q E:=λa c z=>di I (n+1) z (λi d a Z st h g=>by
    have:=o (i+1) d a Z st (by simpa using h) (by rw[show n+(i+1)=n+1+i by omega];exact g);rw[show n+(i+1)=n+1+i by omega] at this;exact this) λa Z st h=>m a Z st (by rw[B1,show n+(l.length+1)=n+1+l.length by omega];exact h)
   unfold DM;rw[r];refine ae.mpr (wp_some.mpr (ae.mpr (ak q (λb c z=>?_) λx c z=>z)));cases b with
   | true=>
     have z:Ab (f e c) (λy j=>y.imm=true/\a.length<sizeLine/\I (n+0+1) (a++[y]) e j) E:=z;rw[if_pos rfl];refine ae.mpr (ak z (λy j hI118=>?_) λx c z=>z);obtain⟨d,a,b⟩:=hI118;rw[if_pos ⟨d,a⟩];exact p _ _ b
   | false=>exact p _ _ z
variable{Q:Bool->S->Prop}{t1 t2:AV S}
open H in
def wp_fAnd:Ab (HL S t1 t2 Z st) Q E↔Ab (t1 Z st) (λb a=>if b=true then Ab (t2 Z a) Q E else Q false a) E:=by
 unfold HL;rw[ae];refine iff_of_eq (congrArg (λz=>Ab (t1 Z st) z E) (funext λb=>funext λa=>propext ?_));cases b<;>exact Iff.rfl
open H in
def wp_fOr:Ab (fOr S t1 t2 Z st) Q E↔Ab (t1 Z st) (λb a=>if b=true then Q true a else Ab (t2 Z a) Q E) E:=by
 unfold fOr;rw[ae];refine iff_of_eq (congrArg (λz=>Ab (t1 Z st) z E) (funext λb=>funext λa=>propext ?_));cases b<;>exact Iff.rfl
def wp_fNot:Ab (HM S t1 Z st) Q E↔Ab (t1 Z st) (λb a=>Q (!b) a) E:=by unfold HM;rw[ae];exact Iff.rfl
def wp_fTrue:Ab (Jo S Z st) Q E↔Q true st:=Iff.rfl
end
def aK{n p:Nat}{B:Ay Unit}{l:List D}{Q:D->Unit->Prop}{E:AM->Unit->Prop}(e:l.length=p)(c:p<=n)(h:Ab (B (Bh n l) ()) (λa b=>match a with
 | .rt d=>Q d b
 | .nx _=>Q .non b
 | _=>False) E):Ab (Bj n p B l) Q E:=by
 unfold Bj;rw[if_pos ⟨e,c⟩];cases q:B (Bh n l) () with
 | bad=>rw[q] at h;exact h
 | exc x u=>rw[q] at h;exact h
 | ok a u=>rw[q] at h;cases a<;>exact h
def bU{S:Type}{n p:Nat}{B:Ay S}{l:List D}{a:S}{Q:D->S->Prop}{E:AM->S->Prop}(e:l.length+1=p)(c:p<=n)(h:Ab (B (Bi n l) a) (λb a=>match b with
 | .rt d=>Q d a
 | .nx _=>Q .non a
 | _=>False) E):Ab (CU n p B l a) Q E:=by
 unfold CU;rw[if_pos ⟨e,c⟩];cases q:B (Bi n l) a with
 | bad=>rw[q] at h;exact h
 | exc x u=>rw[q] at h;exact h
 | ok b u=>rw[q] at h;cases b<;>exact h
def ar{m:Int}{c:Dr}{Q:D->Dr->Prop}{E:AM->Dr->Prop}(b:0<m)(e:m<1073741824)(d:c.2<2 ^ 40)(h:∀v a,0<=v->v<m->a.2=c.2+1->Q (.int v) a):Ab (By [.int m] c) Q E:=by
 unfold By;simp only;rw[if_pos ⟨b,e,d⟩];split
 ·exact h _ _ (Int.emod_nonneg _ 'o') (Int.emod_lt_of_pos _ b) rfl
 ·exact h _ _ (Int.emod_nonneg _ 'o') (Int.emod_lt_of_pos _ b) rfl
def az{l:List D}:D.flat (.lst l)=D.immL l:=rfl
def aA{k l:List D}:D.flat (.dct k l)=D.immL l:=rfl
def aB{i:Int}:D.flat (.int i)=false:=rfl
def aC{i:Str}:D.flat (.str i)=false:=rfl
def aG{i:Bool}:D.flat (.bl i)=false:=rfl
def aD:D.flat .non=false:=rfl
def aE{l:List D}:D.flat (.tup l)=false:=rfl
def aU{n:Nat}(h:n<=1000):n<=sizeLine:=Bw (eF h)
def lt_size{n:Nat}(h:n<=1000):n<sizeLine:=eF h
theorem am{α:Type}{f:α->D}(h:∀a,(f a).imm=true):∀l:List α,D.immL (l.map f)=true
 | []=>rfl
 | a::l=>by simp only[Be,D.immL,h a,am h l,C9]
def qW:D.immL l=true↔∀d∈l,d.imm=true:=by
 induction l with
 | nil=>simp[D.immL]
 | cons a l b=>simp[D.immL,b]
def dj(m:D.immL l=true)(h:l.length<=1000):A6 l=some (.tup l):=if_pos {m,aU h}
def ci{l:List D}(m:D.immL l=true)(h:l.length<=1000):B6 l=some (.lst l):=if_pos {m,aU h}
def aW(c:a.imm=true)(d:b.imm=true):A6 [a,b]=some (.tup [a,b]):=dj (by simp[D.immL,c,d]) 'd'
def bn:B6 []=some (.lst []):=ci rfl 'd'
def gK{a b:D}(c:a.imm=true)(d:b.imm=true):B6 [a,b]=some (.lst [a,b]):=ci (by simp[D.immL,c,d]) 'd'
def bV(m:d.imm=true)(h:l.length<=1000):HU l d=some (l++[d]):=if_pos {m,lt_size h}
def ah{i:Int}:D.imm (.int i)=true:=id rfl
def ay{i:Str}:D.imm (.str i)=true:=id rfl
def aq{i:Bool}:D.imm (.bl i)=true:=id rfl
def aH:D.imm .non=true:=id rfl
def ai{l:List D}:D.imm (.tup l)=D.immL l:=id rfl
def dm{S:Type}{E:AM->S->Prop}{Z:Ag}{e:S}{Q:List D->S->Prop}{g:BD}{t:AV S}{f:Fn S}{l:List D}(h:D->D)(R:Ag->Prop)(p:R Z)(s:∀d∈l,∀Z,R Z->∃j,g d Z=some j/\R j/\Ab (t j e) (λb m=>b=true/\m=e) E/\Ab (f j e) (λy o=>y=h d/\y.imm=true/\o=e) E)(a:l.length<=sizeLine)(q:Q (l.map h) e):Ab (DM S g t f l [] Z e) Q E:=by
 refine di (λn a f c=>a=(l.take n).map h/\R f/\c=e) 0 {'d',p,rfl} (λi d a f c g hI120=>?_) λa f c hI119=>?_
 ·obtain⟨a,r,c⟩:=hI120
  subst c;have h:i<l.length:=(Bd.mp g).1;obtain⟨j,q1,r1,q2,q3⟩:=s d (Ct g) f r;refine{j,q1,ak q2 (λb m hI121=>?_) λx s z=>z};obtain⟨b,es⟩:=hI121;subst b es;rw[if_pos rfl];refine ak q3 (λy o ⟨d,b,es⟩=>{b,?_,?_,r1,es}) λx s z=>z
  ·rw[a,Ai,B9];omega
  ·rw[a,d,Aq,Cu,g,A7];rfl
 ·obtain⟨a,r,c⟩:=hI119
  rw[Aq,Ck] at a;subst a c;exact q
theorem fg{α:Type}{f:α->Bool}:∀l:List α,De (l.map λa=>.bl (f a))=some (l.map f)
 | []=>rfl
 | a::l=>by simp only[Be,De,fg l,Option.map_some]
mutual
noncomputable def D.lw:D->Bool
 | .bl _=>false
 | .dct _ _=>false
 | .fl l=>D.lwL l&&decide (l.length<=sizeLine)
 | .fd _ _=>false
 | .tup l=>D.lwL l&&decide (l.length<=sizeLine)
 | .lst l=>D.lwL l&&decide (l.length<=sizeLine)
 | _=>true
noncomputable def D.lwL:List D->Bool
 | []=>true
 | d::l=>D.lw d&&D.lwL l
end
def kM{a b:D}(e:a.imm=true)(d:b.imm=true){c:Bool}:Au (.lst [a,b]) (.int (if c=true then 1 else 0))=some (if c=true then b else a):=by
 cases c
 ·show im (some a)=some a
  simp[im,e]
 ·show im (some b)=some b
  simp[im,d]
def ba{j:Int}(h:j<=1000)(a:0<=j):HR [.int j]=some (Cq 0 j.toNat):=if_pos {'o','o'}
def bq{a:Int}{n:Nat}:(Cq a n).length=n:=by unfold Cq;simp
def bg{a:Int}{n i:Nat}(h:(Cq a n)[i]?=some d):d=.int (a+i)/\i<n:=by
 unfold Cq at h;rw[AX] at h;cases q:(List.range n)[i]? with
 | none=>rw[q] at h;cases h
 | some k=>
   rw[q] at h;obtain⟨b,e⟩:=Bd.mp q;rw[List.getElem_range] at e;subst e;cases h;exact{rfl,by simpa using b}
mutual
theorem kN:∀{d:D},d.lw=true->D.eqq d d=some true
 | .non,_=>rfl
 | .bl _,h=>nomatch (show false=true from h)
 | .int i,_=>congrArg some (ce i)
 | .str i,_=>congrArg some (ce i)
 | .tup l,h=>by
   have a:D.lwL l=true/\l.length<=sizeLine:=by simpa using (show (D.lwL l&&decide (l.length<=sizeLine))=true from h)
   exact fi a.1
 | .lst l,h=>by
   have a:D.lwL l=true/\l.length<=sizeLine:=by simpa using (show (D.lwL l&&decide (l.length<=sizeLine))=true from h)
   show (if l.length=l.length then D.eqL l l else some false)=some true;rw[if_pos rfl];exact fi a.1
 | .fl l,h=>by
   have a:D.lwL l=true/\l.length<=sizeLine:=by simpa using (show (D.lwL l&&decide (l.length<=sizeLine))=true from h)
   show (if l.length=l.length then D.eqL l l else some false)=some true;rw[if_pos rfl];exact fi a.1
 | .dct _ _,h=>nomatch (show false=true from h)
 | .fd _ _,h=>nomatch (show false=true from h)
theorem fi:∀{l:List D},D.lwL l=true->D.eqL l l=some true
 | [],_=>rfl
 | d::l,h=>by
   have a:d.lw=true/\D.lwL l=true:=by simpa [D.lwL] using h
   simp only[D.eqL,kN a.1,fi a.2,EE,Option.map_some,C9]
end
theorem bM{α:Type}{f:α->D}{n:Nat}(h:∀a,(f a).dep<=n):∀l:List α,D.depL (l.map f)<=n
 | []=>AR _
 | a::l=>by
   have c:=h a;have b:=bM h l;simp only[Be,D.depL];omega
def qX{neg:Bool}{d:D}(h:d.lw=true)(a:d.dep<=30):BE neg d d=some (.bl (if neg then false else true)):=by
 unfold BE;rw[if_pos a,kN h];cases neg<;>rfl
def kO{l:List D}{k:Nat}:cutD l none (some (k:Int))=l.take k:=by
 unfold cutD;rw[HT.sIx_nat,HT.sIx_none,Nat.sub_zero,Fp];by_cases h:k<=l.length
 ·rw[DC h]
 ·rw[Nat.min_eq_right 'o',Ck,DR 'o']
section
variable{S:Type}{E:AM->S->Prop}{Z:Ag}{st:S}{Q:Fl->S->Prop}{f fk fv:Fn S}{i j k:Nat}{t:AV S}{B:Ay S}
theorem gL(I:Ag->S->Prop)(μ:Ag->S->Nat)(l:∀Z st,I Z st->Ab (t Z st) (λb e=>if b=true then Ab (B Z e) (λg a=>match g with
 | .nx c=>I c a/\μ c a<μ Z st
 | .ct c=>I c a/\μ c a<μ Z st
 | .bk c=>Q (.nx c) a
 | .rt d=>Q (.rt d) a) E else Q (.nx Z) e) E):∀(n:Nat) (Z:Ag) (st:S),I Z st->μ Z st<n->Ab (Ci S t B n Z st) Q E
 | 0,_,_,_,h=>absurd h (Nat.not_lt_zero _)
 | n+1,Z,st,h,m=>by
   unfold Ci;refine ae.mpr (ak (l Z st h) (λb e q=>?_) λx s z=>z);cases b with
   | false=>exact q
   | true=>
     have q:Ab (B Z e) _ E:=q;rw[if_pos rfl];refine ae.mpr (ak q (λg a z=>?_) λx s z=>z);cases g with
     | nx c=>exact gL I μ l n c a z.1 (by have:=z.2;omega)
     | ct c=>exact gL I μ l n c a z.1 (by have:=z.2;omega)
     | bk c=>exact z
     | rt d=>exact z
def qY(I:Ag->S->Prop)(μ:Ag->S->Nat)(e:I Z st)(g:∀Z st,I Z st->Ab (t Z st) (λb c=>if b=true then Ab (B Z c) (λd a=>match d with
 | .nx b=>I b a/\μ b a<μ Z st
 | .ct b=>I b a/\μ b a<μ Z st
 | .bk b=>Q (.nx b) a
 | .rt d=>Q (.rt d) a) E else Q (.nx Z) c) E):Ab (FR S t B Z st) Q E:=by
 have h:=gL (Q:=Q) (E:=E) I μ g (μ Z st+1) Z st e (Nat.lt_succ_self _);rw[jO (n:=μ Z st+1) (λz=>by rw[z] at h;exact h)];exact h
end
def gM[∀i j,Decidable (C i j)]{i j:Int}(h:C i j):iOp C g (.int i) (.int j)=some (g i j):=if_pos h
section
variable{S:Type}{E:AM->S->Prop}{Z:Ag}{st:S}{Q:Fl->S->Prop}{F G:Ay S}
def qZ(I:Ag->S->Prop)(f:Ab (F Z st) (λc a=>∃b,c=.nx b/\I b a) E)(d:∀b a,I b a->Ab (G b a) Q E):Ab (FQ S F G Z st) Q E:=
 ax.mpr (ak f (λc a ⟨b,e,h⟩=>by subst e;exact d b a h) λx s z=>z)
end
def dZ{n:Nat}(h:n<=1000000):n<sizeLine:=by rw[sizeLine_eq];omega
def kP{l:List D}{v:Int}(b:0<=v)(a:v<l.length):∃d,BC l v=some d/\l[v.toNat]?=some d:=by
 have a:v.toNat<l.length:=by omega
 refine{l[v.toNat],?_,Ba a};have:=f7 (Ba a);rwa [show ((v.toNat:Nat):Int)=v by omega] at this
def cK{v:Int}(m:D.immL l=true)(c:0<=v)(b:v<l.length):∃d∈l,Au (.lst l) (.int v)=some d:=by
 obtain⟨d,e,f⟩:=kP c b;have a:=Ct f;refine{d,a,?_};show im (BC l v)=_;rw[e];simp[im,qW.mp m d a]
def bF{v:Int}(m:d.imm=true)(c:0<=v)(h:l[v.toNat]?=some d):Au (.lst l) (.int v)=some d/\Au (.tup l) (.int v)=some d:=by
 have b:v<l.length:=by have:=(Bd.mp h).1;omega
 obtain⟨d',e,a⟩:=kP c b;rw[h] at a;cases a;constructor
 ·show im (BC l v)=_
  rw[e];simp[im,m]
 ·show im (BC l v)=_
  rw[e];simp[im,m]
def bW{i j:Int}:D.eqq (.int i) (.int j)=some (i == j):=id rfl
def q9{i j:Str}:D.eqq (.str i) (.str j)=some (i == j):=id rfl
def aS{neg:Bool}{i j:Int}:BE neg (.int i) (.int j)=some (.bl (if neg then !(i == j) else (i == j))):=by
 unfold BE;rw[if_pos (by simp[D.dep]),bW];rfl
def cj{neg:Bool}{i j:Str}:BE neg (.str i) (.str j)=some (.bl (if neg then !(i == j) else (i == j))):=by
 unfold BE;rw[if_pos (by simp[D.dep]),q9];rfl
theorem kQ:∀{c d:List D},c.length=d.length->(Ar k c (List.zipWith g c d)).isSome=(Ar k c d).isSome
 | [],[],_=>rfl
 | a::c,b::d,h=>by
   show (Ar k (a::c) (g a b::List.zipWith g c d)).isSome=_;unfold Ar;by_cases e:AG a=some k
   ·rw[if_pos e,if_pos e];rfl
   ·rw[if_neg e,if_neg e];exact kQ (by simpa using h)
 | [],_::_,h=>by cases h
 | _::_,[],h=>by cases h
theorem kR:∀{d c:List D},d.length=c.length->(Ar k (d++[AC k']) (c++[v])).isSome=((Ar k d c).isSome||decide (k'=k))
 | [],[],_=>by
   show (Ar k [AC k'] [v]).isSome=_;unfold Ar;rw[cH];by_cases e:k'=k
   ·rw[if_pos (by rw[e])];simp[e]
   ·rw[if_neg (λz=>e (Option.some.inj z))];simp[Ar,e]
 | a::d,b::c,h=>by
   show (Ar k (a::(d++[AC k'])) (b::(c++[v]))).isSome=_;unfold Ar;by_cases e:AG a=some k
   ·rw[if_pos e,if_pos e];rfl
   ·rw[if_neg e,if_neg e];exact kR (by simpa using h)
 | [],_::_,h=>by cases h
 | _::_,[],h=>by cases h
def fj(h:a.length=b.length):(AY k v a b).1.length=(AY k v a b).2.length/\(AY k v a b).1.length<=a.length+1:=by
 unfold AY;split
 ·simp[List.length_zipWith,h]
 ·simp[h]
open H in
def ra(h:a.length=b.length):(Ar k (AY k' v a b).1 (AY k' v a b).2).isSome=((Ar k a b).isSome||decide (k'=k)):=by
 unfold AY;split
 ·rename_i c
  rw[kQ h];by_cases e:k'=k
  ·subst e;simp[c]
  ·simp[e]
 ·exact kR h
instance Holds(d:D)(n:Nat)(P:List Ak->Prop):Prop:=∃ks vs,d=.dct (.non::ks) vs/\D.immL vs=true/\ks.length=vs.length/\ks.length<=n/\∀k,(Ar k ks vs).isSome=true↔P k
def Holds.put{b c:List D}{n:Nat}{P:List Ak->Prop}{k:List Ak}{v:D}(h:Holds (.dct (.non::b) c) n P)(g:v.imm=true):Holds (.dct (.non::(AY k v b c).1) (AY k v b c).2) (n+1) (λq=>P q\/k=q):=by
 obtain⟨d,f,e,j,a,l,i⟩:=h;cases e;refine{_,_,rfl,gA g j,(fj a).1,by have:=(fj (k:=k) (v:=v) a).2;omega,λq=>?_};rw[ra a,Bool.or_eq_true,i q,decide_eq_true_eq]
theorem Holds.all:∀{ps:List (List Ak×D)} {c d:List D} {n:Nat} {P:List Ak->Prop},Holds (.dct (.non::c) d) n P->(∀p∈ps,p.2.imm=true)->Holds (.dct (.non::(Cj ps (c,d)).1) (Cj ps (c,d)).2) (n+ps.length) (λq=>P q\/∃p∈ps,p.1=q)
 | [],c,d,n,P,h,_=>by
   obtain⟨a,b,e,i,f,j,g⟩:=h;exact{a,b,e,i,f,j,λq=>by rw[g q];simp}
 | p::ps,c,d,n,P,h,l=>by
   have m:=Holds.all (ps:=ps) (h.put (k:=p.1) (l p 'd')) λq h=>l q (by simp[h])
   obtain⟨a,b,e,i,f,j,g⟩:=m;refine{a,b,e,i,f,by simp;omega,λq=>?_};rw[g q];simp only[AL,exists_eq_or_imp];constructor
   ·rintro ((a | a) | a)
    ·exact .inl a
    ·exact .inr (.inl a)
    ·exact .inr (.inr a)
   ·rintro (a | a | a)
    ·exact .inl (.inl a)
    ·exact .inl (.inr a)
    ·exact .inr a
def Holds.in_{n:Nat}(h:Holds d n P)(f:AG k=some kk){b:Bool}(g:b=true↔P kk):Ds false k d=some (.bl b)/\Ds true k d=some (.bl (!b)):=by
 obtain⟨a,c,rfl,l,i,j,d⟩:=h;have e:(Ar kk a c).isSome=b:=by rw[Fo,d,g]
 constructor
 ·show (AG k).map _=_
  rw[f];show some (D.bl (Ar kk a c).isSome)=_;rw[e]
 ·show (AG k).map _=_
  rw[f];show some (D.bl (!(Ar kk a c).isSome))=_;rw[e]
def Holds.flat{d:D}{n:Nat}{P:List Ak->Prop}(h:Holds d n P):d.flat=true:=by
 obtain⟨f,b,rfl,a,c,e,d⟩:=h;exact a
def Holds.nil{n:Nat}:Holds (.dct [.non] []) n (λ_=>False):={[],[],rfl,rfl,rfl,AR _,λk=>by simp[Ar]}
def Holds.imp{n m:Nat}(h:Holds d n P)(b:n<=m)(a:∀k,P k↔P' k):Holds d m P':=by
 obtain⟨c,f,e,g,b,i,d⟩:=h;exact{c,f,e,g,b,'o',λk=>by rw[d k,a k]}
instance FrT(K:FG)(a:Addr)(xs:List V):Prop:=∃(o:Obj) (its:Array Value) (n:Nat),K.lookup a=some o/\o.cls=.type "tuple"/\o.data=.seq its n/\its.size<=sizeLine/\Ao xs its.toList
def FrT.sq{K:FG}{a:Addr}{b:List V}{H:Hp}(h:FrT K a b):AN K H a b:=.inr h
def Ig(K:FG)(a:Addr)(tbl:List (Int×Int)):Prop:=∃vs,FrT K a vs/\vs.length=tbl.length/\∀(i:Nat) (p:Int×Int),tbl[i]?=some p->∃b,vs[i]?=some (.ref b)/\FrT K b [.int p.1,.int p.2]
section
variable{X:Cx}{S:Type}{W:Wd S}{c:Dx W}{g ga gb gc:Gr}{a b:Expr}{fa fb fc:Fn S}{pos p2:Pos}{E:AM->S->Prop}{Z:Ag}{st:S}
def rb{x:Str}{i:Int}(h:∃t,X.mg x=some (.int i t))(e:Gl X x)(d:autoParam 'u' uD):DE X c g (.Name x pos) (fC S (.int i)):=by
 obtain⟨t,f⟩:=h;exact(fO (v:=.int i) e f ⟨t,rfl⟩ d).imp λY H Q ⟨Z,st,R,d,w⟩=>w _ _ Ah.refl d (AE.val R (show AE c H H (.int _) (.int _) from Is.int_iff.mpr rfl) g)
def JA(S:Type)(tbl:List (Int×Int))(i j:Nat)(f:Fn S):Ay S:=λZ st=>(f Z st).bind λd st1=>match d with
 | .int k=>if 0<=k then match tbl[k.toNat]? with
  | some p=>(Az (put Z i (.int p.1)) st1).bind λZ1 st2=>(Az (put Z1 j (.int p.2)) st2).bind λZ2 st3=>.ok (.nx Z2) st3
  | none=>.bad
   else .bad
 | _=>.bad
open H in
def xg{x h d:Str}{e:Expr}{f:Fn S}{tbl:List (Int×Int)}{i j:Nat}{a0:Addr}{o l p2 m q:Pos}{kt}(M:X.calm=true)(p:c.K=X.K)(y:∃a0,X.mg x=some (.ref a0)/\Ig X.K a0 tbl)(O:Gl X x)(B:X.N.Nodup)(G:X.N[i]?=some h)(I:X.N[j]?=some d)(P:Loc X.env.scope h)(C:Loc X.env.scope d)(J:DE X c .R e f)(p:Gd e)(N:autoParam 'u' uD)(A:autoParam (X.fn h=true\/X.env.scope.names.lookup h=some .local) z0a._auto_1)(z:autoParam (X.fn d=true\/X.env.scope.names.lookup d=some .local) z0a._auto_1)(R:autoParam (swapsWithSole [.Tuple [.Name h l,.Name d p2] kt m] (.Subscript (.Name x o) e q) pos.line X.env=pure false) uR)(F:autoParam (swappedStores [.Tuple [.Name h l,.Name d p2] kt m] (.Subscript (.Name x o) e q) X.env=pure none) uR)(L:autoParam ((assignEach [.Tuple [.Name h l,.Name d p2] kt m] X.env).map (·.2)=[assign (.Tuple [.Name h l,.Name d p2] kt m) X.env]) uR)(T:autoParam ((assignEach [.Name h l,.Name d p2] X.env).length=2) uR)(u:autoParam ((assignEach [.Name h l,.Name d p2] X.env).findIdx? (·.1)=none) uR)(r:autoParam ((assignEach [.Name h l,.Name d p2] X.env).map (·.2)=assign (.Name h l) X.env::(assignEach [.Name d p2] X.env).map (·.2)) uR)(s:autoParam ((assignEach [.Name d p2] X.env).map (·.2)=assign (.Name d p2) X.env::(assignEach [] X.env).map (·.2)) uR) :
 DS X c (.Assign [.Tuple [.Name h l,.Name d p2] kt m] (.Subscript (.Name x o) e q) pos) (JA S tbl i j f):=by
 obtain⟨a0,y,o,Q,d,m⟩:=y;refine(fU (f8 jc (fO (v:=.ref a0) O y rfl N) J p) (fT (n:=2) M (dI (eA (i:=i) B G P A) (dI (eA (i:=j) B I C z) fS s) r) T u) R F L).imp λD Y H hI122=>?_
 obtain⟨Z,st,R,j,w⟩:=hI122;refine{Z,st,R,j,ak (ae.mp w) (λd f q v H1 l h z=>?_) λx f q p e d=>q p (e.f0 R) d};split at q
 ·rename_i k
  split at q
  ·rename_i d
   split at q
   ·rename_i p r
    obtain⟨e,d,q⟩:=au.mp (ae.mp q);obtain⟨f,e,q⟩:=au.mp (ae.mp q);obtain⟨s,rfl⟩:=bL d;obtain⟨u,rfl⟩:=bL e;obtain⟨b,f,d⟩:=m k.toNat p r;have z':Is c.K 'w' H1 (.int k) v:=z.toR;have e:=(R.ext j l).setB s (show Is c.K (Av c Y Z) H1 (.int p.1) (.int p.1) from Is.int_iff.mpr rfl);have R2:=e.setB u (show Is c.K _ H1 (.int p.2) (.int p.2) from Is.int_iff.mpr rfl);refine{a0,o,k,.ref b,rfl,Is.int_iff.mp z',Q.sq,?_,b,[.int p.1,.int p.2],rfl,d.sq,rfl,_,_,rfl,_,_,rfl,rfl,?_}
    ·have:=f7 f
     rwa [show ((k.toNat:Nat):Int)=k by omega] at this
    ·exact q _ _ ((Ah.frm l).trans (bf.trans bf)) h R2
   ·exact q.elim
  ·exact q.elim
 ·exact q.elim
def E7(d k x:D):Option D:=match d with
 | .dct (.non::ks) vs=>(AG k).bind λkk=>im (some ((Ar kk ks vs).getD x))
 | _=>none
def Ih(S:Type)(f1 f2 f3:Fn S):Fn S:=λZ st=>(f1 Z st).bind λd st1=>match d with
 | .dct (.non::ks) vs=>(f2 Z st1).bind λk st2=>(f3 Z st2).bind λx st3=>Az (E7 (.dct (.non::ks) vs) k x) st3
 | _=>.bad
open H in
def xh(h:X.A.units+2<cLine)(d:DE X c ga o fa)(i:DE X c gb e fb)(j:DE X c gc f fc)(m:M2 X o "get" apos e f cpos):DE X c g (.Call (.Attribute o "get" apos) [e,f] [] cpos) (Ih S fa fb fc):=
 (pi h d i j m).imp λY H Q hI43=>by
  obtain⟨Z,st,R,f,w⟩:=hI43;have w':=ae.mp w;refine{Z,st,R,f,ak w' (λd e q v H1 l i z=>?_) λx e q=>q};split at q
  ·rename_i p m
   have u:Is c.K 'w' H1 (.dct (.non::p) m) v:=z.toR;obtain⟨a,h,s,n,d,j⟩:=Is.dct_iff.mp u;have d:IsD H1 a:=by
    rcases j with⟨o,_,_,h⟩ | ⟨o,_,_,h⟩
    ·exact .inl {_,.inl h}
    ·exact .inr {_,.inl h}
   refine{a,s,d,Z,e,R.ext f l,i,ak (ae.mp q) (λk e q y H2 h d F=>?_) λx e q H2 h d=>q H2 (l.trans h) d};have R2:=(R.ext f l).ext i h;refine{Z,e,R2,d,ak (ae.mp q) (λx f q z H3 j e G=>?_) λx f q H3 j e=>q H3 ((l.trans h).trans j) e};obtain⟨r,f,q⟩:=au.mp q;have A:=(l.trans h).trans j;have B:=R2.ext d j;have C:Is c.K 'w' H3 (.dct (.non::p) m) v:=(u.ext h i λ_ n=>n).ext j d λ_ n=>n
   have u:Is c.K 'w' H3 k y:=F.toR.ext j d;have n:Is c.K 'w' H3 x z:=G.toR;cases j:AG k with
   | none=>unfold E7 at f;rw[j] at f;cases f
   | some o=>
     have f:im (some ((Ar o p m).getD x))=some r:=by unfold E7 at f;rw[j] at f;exact f
     obtain⟨h,l⟩:=df f;obtain⟨m,o',i,o,d⟩:=gy j u C;rw[s] at i;have i:a=m:=by cases i;rfl
     subst i;refine{o',o,q _ H3 A e ?_};have y:Is c.K 'w' H3 r (o'.getD z):=by
      rcases d with⟨i,f⟩ | ⟨d',v',i,f,d⟩
      ·rw[i] at h;rw[f]
       cases h;exact n
      ·rw[i] at h;rw[f]
       cases h;exact d
     exact(AE.val B (show AE c H3 H3 r _ from Is.ofImm l y) g).back A e
  ·exact q.elim
def Ii:D->D->Option D
 | .lst l,.int k=>if D.immL l=true/\-(2 ^ 63)<=k/\k<2 ^ 63/\l.length*k.toNat<=sizeLine then some (.lst (List.replicate k.toNat l).flatten) else none
 | _,_=>none
theorem kS{K:FG}{A:Addr->Prop}{H:Hp}{l:List D}{d:List V}(h:aa K A H l d):∀k:Nat,aa K A H (List.replicate k l).flatten (List.replicate k d).flatten
 | 0=>aa.nil.mpr rfl
 | k+1=>by
   rw[Dj,Dj,FF,FF];exact h.append (kS h k)
theorem kT(h:D.immL l=true):∀k:Nat,D.immL (List.replicate k l).flatten=true
 | 0=>rfl
 | k+1=>by
   rw[Dj,FF];exact cg h (kT h k)
open H in
def rc:Bg c G4 Ii:=by
 intro f e i l H st d Q h j f e q;unfold Ii at e;split at e
 ·rename_i l k
  split at e
  ·rename_i d
   cases e;obtain⟨a,m,o,n,l,i⟩:=Is.lst_iff.mp j;refine{a,k,m,o,Is.int_iff.mp f,l,d.2.1,d.2.2.1,by rw[<-i.length];exact d.2.2.2,λp f=>?_};exact q _ _ (Ah.laid f) (aY h f) (AE.lst h f (λ_ n=>n) (kT d.1 _) (kS i _))
  ·cases e
 ·cases e
def Ij(a b:D):Option D:=(iOp DK (λi j=>.int (i*j)) a b).or (Ii a b)
def xi:AU X (binaryOp .Mult) (λx y H Q=>rI DK (λi j=>.int (i*j)) x y H Q\/G4 x y H Q):=cv.or oU
def xj:Bg c (λx y H Q=>rI DK (λi j=>.int (i*j)) x y H Q\/G4 x y H Q) Ij:=qc.or rc
def wp_sTab2{Q:Fl->S->Prop}{i j:Nat}{f:Fn S}{tbl:List (Int×Int)}:Ab (JA S tbl i j f Z st) Q E↔Ab (f Z st) (λd e=>∃k p,d=.int k/\0<=k/\tbl[k.toNat]?=some p/\∃h,put Z i (.int p.1)=some h/\∃f,put h j (.int p.2)=some f/\Q (.nx f) e) E:=aQ λd e=>by
 cases d with
 | int k=>
   refine gI ?_;refine(eW.trans ?_).trans exists_and_left.symm;refine and_congr Iff.rfl ?_;cases tbl[k.toNat]? with
   | none=>exact cJ
   | some p=>exact cI (eY λ_=>eX)
 | _=>exact gH λb e=>by cases e
open H in
def wp_fGet{Q:D->S->Prop}{m l n:Fn S}:Ab (Ih S m l n Z st) Q E↔Ab (m Z st) (λd e=>∃f h,d=.dct (.non::f) h/\Ab (l Z e) (λk j=>Ab (n Z j) (λx i=>Ab (Az (E7 (.dct (.non::f) h) k x) i) Q E) E) E) E:=by
 unfold Ih;rw[ae];refine iff_of_eq (congrArg (λz=>Ab (m Z st) z E) (funext λd=>funext λe=>propext ?_));by_cases m:∃f h,d=.dct (.non::f) h
 ·obtain⟨f,h,rfl⟩:=m
  show Ab ((l Z e).bind λk j=>(n Z j).bind λx i=>Az (E7 (.dct (.non::f) h) k x) i) Q E↔_;rw[ae];simp only[ae];exact{λq=>⟨f,h,rfl,q⟩,λ⟨d,i,e,q⟩=>by cases e;exact q}
 ·constructor
  ·intro q
   split at q
   ·rename_i f h
    exact absurd ⟨f,h,rfl⟩ m
   ·exact q.elim
  ·rintro ⟨f,h,rfl,_⟩
   exact absurd ⟨f,h,rfl⟩ m
end
def re{K:FG}{a f c j d:Addr}{p0 p1 p2 p3:Int×Int}{i p m o l:Option Addr}{e b r q g:Array (Option Value)}{n B G I x:Nat}{z F s u A C y E:Tok}(h:K.lookup a=some {.type "tuple",i,.seq #[.ref f,.ref c,.ref j,.ref d] n,e})(v:K.lookup f=some {.type "tuple",p,.seq #[.int p0.1 z,.int p0.2 A] B,b})(z:K.lookup c=some {.type "tuple",m,.seq #[.int p1.1 F,.int p1.2 C] G,r})(m:K.lookup j=some {.type "tuple",o,.seq #[.int p2.1 s,.int p2.2 y] I,q})(o:K.lookup d=some {.type "tuple",l,.seq #[.int p3.1 u,.int p3.2 E] x,g}):Ig K a [p0,p1,p2,p3]:=by
 have g:∀{b:Addr} {p:Int×Int} {i:Option Addr} {e:Array (Option Value)} {n:Nat} {t u:Tok},K.lookup b=some ⟨.type "tuple",i,.seq #[.int p.1 t,.int p.2 u] n,e⟩->FrT K b [.int p.1,.int p.2]:=λ{b p i e n t u} h=>
  {_,_,_,h,rfl,rfl,by show 2<=sizeLine;decide,.cons ⟨t,rfl⟩ (.cons ⟨u,rfl⟩ .nil)}
 refine{[.ref f,.ref c,.ref j,.ref d],{_,_,_,h,rfl,rfl,by show 4<=sizeLine;decide,.cons rfl (.cons rfl (.cons rfl (.cons rfl .nil)))},rfl,λi p a=>?_}
 match i,a with
 | 0,a=>cases a;exact{f,rfl,g v}
 | 1,a=>cases a;exact{c,rfl,g z}
 | 2,a=>cases a;exact{j,rfl,g m}
 | 3,a=>cases a;exact{d,rfl,g o}
 | i+4,a=>simp at a
end L2
namespace PySem
end PySem
namespace L2
def rf{P:Program}{w:World}{K:FG}(a b:Addr):HW P w K (λH g=>Rd H a (.lst g)) (λi h=>h.IsListIter b a i) b where
 obj:=λ⟨o,a,_,d⟩=>{o,a,λv z=>by rw[d] at z;cases z}
 keep:=λt q=>t.at q
 inj:=λ_ I b a=>I.list_inj (.inl b) (.inl a)
 item:=λ_ I c e a=>by
  obtain⟨d,b,p,_⟩:=I.list (.inl c);obtain⟨u,f,j⟩:=b.get e;exact{u,j,λA E Q i=>wpAny_nextOf_list_item a p.isList (by simpa using f) i}
 done:=λ_ I c e a A E Q f h=>by
  obtain⟨d,b,p,_⟩:=I.list (.inl c);have d:=b.length;exact wpAny_nextOf_list_end f a p.isList (by simp;omega) h
open H in
def rh{P:Program}{w:World}{K:FG}{d:List Expr}{x1}{pos:Pos}(b:Nat)(a e c:Addr):Ev P w K (.Tuple d x1 pos) (Gk b λH f=>Rd H a (.lst f)) [e,c] e (λi h=>e≠c/\(∃d,IsEnum h e c (i+b:Nat) d)/\h.IsListIter c a i):=jU (rf a c)
section
variable{x1:Nat}{S:Type}{i:Nat}
def JB(b:Nat)(ta:TA):TI:=λY H R=>ta Y H λvs H1=>∃a xs,vs=[.ref a]/\Rd H1 a (.lst xs)/\R (Gk b λH xs=>Rd H a (.lst xs)) H1
def ri(b:Gl X "enumerate")(d:X.mg "enumerate" = none)(e:PA X [a] ta)(c:autoParam (starEach [a] X.env=[(false,eval a X.env)]) uR):PI X (.Tuple elts x1 tpos) (.Call (.Name "enumerate" p) [a] [] pos) (JB 0 ta):=by
 intro a s Y H R I h;refine Call_ (cY I b d boot_enumerate (PyProof.Rows.callWith_type1 (ag (e pos a s Y H _ I h) λb a hI123=>?_) c rfl));obtain⟨b,H1,I1,r1,q1⟩:=hI123;obtain⟨l,b,rfl,e,q⟩:=q1;cases r1 with
 | cons r d=>
   cases d;cases r;obtain⟨c,f,b,g⟩:=I1.list (.inl e);refine call_enumerate_list b.isList λc d f _ e=>?_
   refine wpAny_pyIter_enum (s:={ a with heap:=c }) d ?_;refine{a.heap.objs.size+1,[a.heap.objs.size+1,a.heap.objs.size],_,_,H1,rfl,I1.kept (t':=a.toks) e,rh 0 l _ _,{Nat.succ_ne_self _,{_,d},f},λb c=>?_,q};have c:a.heap.objs.size<=b:=by
    rcases AL.mp c with z | z
    ·rw[z];exact Nat.le_succ _
    ·exact BX (A8.mp z).symm
   exact I1.fpOk c (I1.hok.fresh c)
def He(b:Nat):List D->Option (List D)
 | [.lst l]=>some (D5 b l)
 | [.fl l]=>some (D5 b l)
 | _=>none
open H in
def rj{b:Nat}(h:∀d,PA X [a] d->PI X (.Tuple elts x1 tpos) e (JB b d))(g:DB X c [a] f):DI X c (.Tuple elts x1 tpos) e (Fu S (He b) f):=
 (h _ g).imp λY H R hI44=>by
  obtain⟨Z,d,c,b,w⟩:=hI44;refine{Z,d,c,b,ak (ae.mp w) (λl b q d H1 e c z=>?_) λx b q=>q};obtain⟨m,d,q⟩:=au.mp q;unfold He at d;split at d
  ·rename_i l
   cases d;obtain⟨v,r,b,f,h⟩:=aa.cons.mp z;obtain⟨a,j,m,s0,i,g⟩:=Is.asL f rfl;rw[aa.nil.mp h,m] at b;exact{a,j,b,s0,q _ H1 e c (eN g i)}
  ·rename_i l
   cases d;obtain⟨v,r,b,f,h⟩:=aa.cons.mp z;obtain⟨a,j,m,s0,i,g⟩:=Is.asL f rfl;rw[aa.nil.mp h,m] at b;exact{a,j,b,s0,q _ H1 e c (eN g i)}
  ·cases d
def xk(g:Gl X "enumerate")(b:X.mg "enumerate" = none)(d:DB X c [a] f)(e:autoParam (starEach [a] X.env=[(false,eval a X.env)]) uR):DI X c (.Tuple elts x1 tpos) (.Call (.Name "enumerate" p) [a] [] pos) (Fu S (He 0) f):=
 rj (λ_ h=>ri g b h e) d
end
def DN(S:Type)(i:Nat)(fk:Fn S)(v:D):Ay S:=λZ st=>match AF Z i with
 | some l=>(fk Z st).bind λk st2=>match k with
   | .int j=>match B3 l.length j with
     | some n=>if v.imm=true then .ok (.nx (Z.set i (.own (.lst (l.set n v))))) st2 else .bad
     | none=>.bad
   | _=>.bad
 | none=>.bad
def Ik(S:Type)(i:Nat)(fk fl fv:Fn S):Ay S:=λZ st=>(fv Z st).bind λt st1=>match t with
 | .tup [a,b]=>if b.imm=true then (DN S i fk a Z st1).bind λr st2=>match r with
   | .nx Z1=>DN S i fl b Z1 st2
   | _=>.bad
   else .bad
 | _=>.bad
section
variable{X:Cx}{S:Type}{W:Wd S}{c:Dx W}{g ga gb gc:Gr}{H1:Hp}{Y:St}{Z:Ag}{st1:S}{A:Addr->Prop}
def rm{i:Nat}(b:Ax c H1 Y Z)(e:W.ok st1 H1)(z:Is c.K A H1 d v)(w:Ab (DN S i fk d Z st1) Qn (Dd c)) :
 EX (BA i) (tD c ga fk) EY v Y H1 λj f=>∃h a,Bb c H1 Y Z f j h/\W.ok a f/\Ax c f j h/\Qn (.nx h) a:=by
 unfold DN at w;cases q:AF Z i with
 | none=>simp only[q] at w;exact(show False from w).elim
 | some l=>
   simp only[q] at w;obtain⟨s,r,B,E,F,y⟩:=b.lstAt q;refine{.ref s,B,Z,st1,b,e,ak (ae.mp w) (λn i q2 a H2 f h m=>?_) λx i q2 H2 f h=>q2 H2 (f.f0 b) h};cases n with
   | int j=>
     have C:a=.int j:=Is.int_iff.mp (show Is c.K 'w' H2 (.int j) a from m.toR);cases u:B3 l.length j with
     | none=>simp only[u] at q2;exact(show False from q2).elim
     | some n=>
       simp only[u] at q2;by_cases p:d.imm=true
       ·rw[if_pos p] at q2
        have R2:=b.ext e f;have m:=f s _ E y;have x:aa c.K (Av c Y Z) H2 l r:=F.mono (f.keepT e λb a=>⟨a.1,a⟩);have E:Is c.K (Av c Y Z) H2 d v:=Is.ofImm (A:=Av c Y Z) p ((Is.ofImm (A':=Av c Y Z) p z).mono (f.keepT e λb a=>⟨a.1,a⟩));refine{s,r,j,n,rfl,C,m,by rw[<-x.length];exact u,?_};obtain⟨b,a⟩:=R2.wr (d':=.lst (l.set n d)) (o:=.lst (r.set n v)) (bK q) B {(λu z=>by cases z),(λd u z=>by cases z)} λd=>{_,aw,(x.set n E).mono d}
        exact{_,i,f.frm.trans a,bv h y m,b,q2}
       ·rw[if_neg p] at q2;exact(show False from q2).elim
   | _=>exact(show False from q2).elim
def rn(b:∀Y H P a,(∀v H,P v H->a v H)->to Y H P->to Y H a)(d:∀Y H P a,(∀v H,P v H->a v H)->ti Y H P->ti Y H a)(e:∀o i v H P a,(∀H,P H->a H)->t o i v H P->t o i v H a)(h:EX to ti t v Y H Q)(k:∀Y H,Q Y H->Q' Y H):EX to ti t v Y H Q':=
 b _ _ _ _ (λ_ _ h=>d _ _ _ _ (λ_ _ h=>e _ _ _ _ _ _ (λ_ h=>k _ _ h) h) h) h
def ro(o i v:V)(H:Hp)(P a:Hp->Prop)(k:∀H,P H->a H)(h:EY o i v H P):EY o i v H a:=
 let ⟨p,f,i,j,a,b,c,d,e⟩:=h;{p,f,i,j,a,b,c,d,k _ e}
def gsub_ok'{i:Nat}(b:Ax c H1 Y Z)(a:W.ok st1 H1)(z:Is c.K A H1 d v)(w:Ab (DN S i fk d Z st1) Qn (Dd c))(k:∀j f l d,Bb c H1 Y Z f j l->W.ok d f->Ax c f j l->Qn (.nx l) d->Q' j f):EX (BA i) (tD c ga fk) EY v Y H1 Q':=
 rn (λ_ _ _ _ k ⟨x,e,h⟩=>{x,e,k _ _ h}) (λ_ _ _ _ k h=>bi h λv H h=>k v H h) ro (rm b a z w) λj f ⟨l,d,a,b,r,q⟩=>k j f l d a b r q
open H in
def xl{x:Str}{i e:Nat}(b:X.calm=true)(a:PE X (.Name x p1) (BA i))(a:PE X (.Name x p3) (BA i))(f:DE X c ga k fk)(j:DE X c gb l fl)(m:DE X c .R value fv)(o:X.K=c.K)(h:∀{d a b:TE},PE X k d->PE X l a->PE X value b->PS X (.Assign [.Tuple [.Subscript (.Name x p1) k p2,.Subscript (.Name x p3) l p4] e p5] value pos) (Ft b (Ja X.K 2 (HF (EX (BA i) d EY) (HF (EX (BA i) a EY) I0))))) :
 DS X c (.Assign [.Tuple [.Subscript (.Name x p1) k p2,.Subscript (.Name x p3) l p4] e p5] value pos) (Ik S i fk fl fv):=
 (h f j m).imp λD Y H q=>by
  refine bi (cF (g:=.R) (k:=λt Z st1=>match t with
   | .tup [a,b]=>if b.imm=true then (DN S i fk a Z st1).bind λr e=>match r with
     | .nx d=>DN S i fl b d e
     | _=>.bad
     else .bad
   | _=>.bad) q) λv H1 ⟨Z,d,h,st1,R,j,l,f,y,z,w⟩=>?_
  split at w
  ·rename_i a b
   by_cases d:b.imm=true;case neg=>rw[if_neg d] at w;exact(show False from w).elim
   rw[if_pos d] at w;obtain⟨p,n,B,es,x⟩:=Is.tup_sq (show Is c.K 'w' H1 (.tup [a,b]) v from z.toR);obtain⟨s,r,a,u,m⟩:=aa.cons.mp x;obtain⟨j,r',h,r,q⟩:=aa.cons.mp m;rw[aa.nil.mp q] at h;subst h;refine{p,n,B,by rw[o];exact es,by rw[a];rfl,s,_,a,?_};refine gsub_ok' l f u (ae.mp w) λm H2 h e f2 a R2 q2=>{j,_,rfl,?_}
   have q2:Ab (DN S i fl b h e) (CT c D Y Z H) (Dd c):=q2;have e:Is c.K (Av c m h) H2 b j:=(Is.ofImm (A':=Av c Y Z) d r).mono (f2.keepT l f);exact gsub_ok' R2 a e q2 λf H3 i d h a b q3=>{rfl,q3 f H3 (y.frm.trans (f2.trans h)) a b}
  ·exact(show False from w).elim
end
section
variable{X:Cx}{S:Type}{W:Wd S}{c:Dx W}{i:Nat}
def Il(S:Type)(fz:List Nat)(F:Ay S):Ay S:=λZ st=>F (frz fz Z) st
def xm(a:List Nat)(h:DS X c s F):DS X c s (Il S a F):=h.imp λD Y H hI45=>by
 obtain⟨Z,d,R,b,w⟩:=hI45;obtain⟨f,e⟩:=Ax.frz b a R;exact{frz a Z,d,f,b,ak (show Ab (F (frz a Z) d) _ _ from w) (λb a q=>q.from e) λ_ _ q=>q}
section
variable{Q:Fl->S->Prop}{E:AM->S->Prop}{Z:Ag}{st:S}
def rp{a:List Nat}:Ab (Il S a F Z st) Q E↔Ab (F (frz a Z) st) Q E:=Iff.rfl
end
end
end L2
namespace PySem
def Et(n1 n2:String)(h:Heap)(l1 l2:Addr):Heap:=(h.push (zO n1 l1)).push (zO n2 l2)
instance zB2(n1 n2:String)(h:Heap)(l1 l2:Addr):Heap:=((Et n1 n2 h l1 l2).push { cls:=.type "tuple",data:=.seq #[.ref h.objs.size,.ref (h.push (zO n1 l1)).objs.size] }).push { cls:=.type "tuple",data:=.seq #[.none,.none] }
def Cw(n1 n2:String)(h:Heap)(l1 l2:Addr):Heap:=(zB2 n1 n2 h l1 l2).push { cls:=.type "zip",data:=.fields #[.none,.bool false,.bool false,.ref (Et n1 n2 h l1 l2).objs.size,.ref ((Et n1 n2 h l1 l2).push { cls:=.type "tuple",data:=.seq #[.ref h.objs.size,.ref (h.push (zO n1 l1)).objs.size] }).objs.size] }
def rq(a b:Addr)(n p:Array Value) :
 Meets (Builtin.«zip.__new__» {[.type "zip",.ref a,.ref b],[]}) (λ_ R s=>s.heap.IsTuple a n/\s.heap.IsList b p/\
  R (.ok (.ret (.ref (zB2 "tuple_iterator" "list_iterator" s.heap a b).objs.size))) { s with heap:=Cw "tuple_iterator" "list_iterator" s.heap a b }):=
 .of_wp λprog w A R s h=>by
  obtain⟨m,g,d,j,l⟩:=s;obtain⟨e,c,h⟩:=h;have i:=sub_zip;have f:Heap.IsTuple (Shared.heap ⟨m,g,d,j,l⟩) a n:=e;have i:Heap.IsList (Shared.heap ⟨m.push { cls:=.type "tuple_iterator",data:=.fields #[.ref a,.int 0 0] },g,d,j,l⟩) b p:=c.at λo e=>AH _ e
  wp_walk using wpAny_pyIter_tuple f,wpAny_pyIter_list i
  exact{_,rfl,h}
def kU(b d:String)(h:Heap)(a c:Addr):(h.push (zO b a)).objs.size=h.objs.size+1/\(Et b d h a c).objs.size=h.objs.size+2/\(zB2 b d h a c).objs.size=h.objs.size+4:=by
 refine{DV ..,?_,?_}
 ·unfold Et;rw[DV,DV]
 ·unfold zB2 Et;rw[DV,DV,DV,DV]
def gO(b e:String)(h:Heap)(a d:Addr):IsZip (Cw b e h a d) (h.objs.size+4) (h.objs.size+2) (h.objs.size+3) .none/\IsPair (Cw b e h a d) (h.objs.size+2) (.ref h.objs.size) (.ref (h.objs.size+1))/\
 IsPair (Cw b e h a d) (h.objs.size+3) .none .none/\(Cw b e h a d).get? h.objs.size=some (zO b a)/\(Cw b e h a d).get? (h.objs.size+1)=some (zO e d)/\∀c o,h.get? c=some o->(Cw b e h a d).get? c=some o:=by
 obtain⟨g,f,j⟩:=kU b e h a d;have i:((Et b e h a d).push { cls:=.type "tuple",data:=.seq #[.ref h.objs.size,.ref (h.push (zO b a)).objs.size] }).objs.size=h.objs.size+3:=by rw[DV,f]
 have u:∀{c:Addr} {o:Obj},(zB2 b e h a d).get? c=some o->(Cw b e h a d).get? c=some o:=λ{c o} q=>AH _ q
 have v:∀{c:Addr} {o:Obj},(Et b e h a d).get? c=some o->(Cw b e h a d).get? c=some o:=λ{c o} q=>u (AH _ (AH _ q))
 refine{?_,?_,?_,v (AH _ (AZ _ rfl)),?_,λc o q=>v (AH _ (AH _ q))}
 ·have q:(Cw b e h a d).get? (zB2 b e h a d).objs.size=some _:=AZ _ rfl
  rw[j,i,f] at q;exact q
 ·have q:(Cw b e h a d).get? (Et b e h a d).objs.size=some _:=u (AH _ (AZ _ rfl))
  rw[f,g] at q;exact q
 ·have q:(Cw b e h a d).get? ((Et b e h a d).push { cls:=.type "tuple",data:=.seq #[.ref h.objs.size,.ref (h.push (zO b a)).objs.size] }).objs.size=some _:=u (AZ _ rfl)
  rw[i] at q;exact q
 ·have q:(Et b e h a d).get? (h.push (zO b a)).objs.size=some (zO e d):=AZ _ rfl
  rw[g] at q;exact v q
end PySem
namespace L2
def Im(a b:Addr):Hp->List V->List V->Prop:=λH xs ys=>H a=some (.tup xs)/\H b=some (.lst ys)
def rs{P:Program}{w:World}{K:FG}{a b d c:Addr}:ZW P w K a b d c (Im a b) (λk h=>h.IsTupleIter d a k) (λk h=>h.IsListIter c b k) where
 obj:=λk h=>{λ⟨o,a,c,d⟩=>{o,a,λv z=>by rw[d] at z;cases z},λ⟨o,a,c,d⟩=>{o,a,λv z=>by rw[d] at z;cases z}}
 keep:=λk h b=>{λa q=>a.at q,λa q=>a.at q}
 there:=λH b a q=>{(λz=>by rw[q.1] at z;cases z),(λz=>by rw[q.2] at z;cases z)}
 vals:=λX d c Y H s b a I q l m=>by
  obtain⟨f,g,e,_⟩:=I.tuple (AN.of q.1);obtain⟨c,j,i,_⟩:=I.list (AT.of q.2);exact{f,c,g,j,λb d a=>{I.tuple_inj (AN.of a.1) (AN.of q.1),I.list_inj (AT.of a.2) (AT.of q.2)},_,_,CN.tup l,CN.lst m,λk z=>⟨z,e⟩,λk z=>⟨z,i.isList⟩,λk h=>{λz=>z.1,λz=>z.1}}
section
variable{x1:Nat}{S:Type}{X:Cx}{W:Wd S}{c:Dx W}{g ga:Gr}{H:Hp}{st:S}
end
end L2
namespace Ts
open PySem PyProof.Rows
section
variable{prog:Program}{w:World}{A:Around}{E:Value->Shared->Prop}{s:Shared}{L:KeyKind}{knd:SortKind}
def Db(prog:Program)(w:World)(A:Around)(E:Value->Shared->Prop)(s:Shared)(L:KeyKind)(knd:SortKind):Prop:=
 ∀(st:SortSt) (x y:Keyed) (a b:L.α) (Q:Option Bool->SortSt->Prop),kindOf st=knd->L.keyOf x.1=some a->L.keyOf y.1=some b->Q (some (L.blt a b)) st->wpS 'r' A E s (lt' x y) Q st
instance ky(L:KeyKind)(x:Keyed):L.α:=(L.keyOf x.1).getD L.dflt
structure Bs(a₀:Array Keyed)(knd:SortKind)(P:Array (Nat×Nat×Nat))(st:SortSt):Prop where
 perm:(arrOf st).Perm a₀
 kind:kindOf st=knd
 fail:failedOf st=none
 pend:pendingOf st=P
variable{st:SortSt}
def Bs.size(B:Bs a₀ knd P st):(arrOf st).size=a₀.size:=B.perm.size_eq
def Bs.arr(B:Bs a₀ knd P st){a:Array Keyed}(h:a.Perm (arrOf st)):Bs a₀ knd P (setArr st a):={h.trans B.perm,B.kind,B.fail,B.pend}
def Bs.at(B:Bs a₀ knd P st)(f:KeysOf L a₀){i:Nat}(g:i<a₀.size):∃x a,(arrOf st)[i]?=some x/\L.keyOf x.1=some a/\KK L (arrOf st) i=a:=by
 have b:i<(arrOf st).size:=by rw[B.size];exact g
 have d:(arrOf st)[i]∈a₀.toList:=(Array.perm_iff_toList_perm.mp B.perm).mem_iff.mp (Array.getElem_mem_toList b);obtain⟨a,c⟩:=f _ d;have e:(arrOf st)[i]?=some (arrOf st)[i]:=Eg b;refine{_,a,e,c,?_};unfold KK;rw[e];show (L.keyOf (arrOf st)[i].1).getD L.dflt=a;rw[c];rfl
def d6(C:Db prog w A E s L knd)(c:KeysOf L a₀)(B:Bs a₀ knd P st){i j:Nat}(f:i<a₀.size)(m:j<a₀.size){Q:Option Bool->SortSt->Prop}(h:Q (some (L.blt (KK L (arrOf st) i) (KK L (arrOf st) j))) st):wpS 'r' A E s (ltAt' i j) Q st:=by
 obtain⟨x,a,l,d,r1⟩:=B.at c f;obtain⟨y,b,e,g,r2⟩:=B.at c m;rw[ltAt'_eq];refine af (wpS_get ?_);show wpS _ _ _ _ (elem' (arrOf st) i >>= λx=>elem' (arrOf st) j >>= λy=>lt' x y) Q st;rw[elem'_eq,elem'_eq,l,e];refine af (al (af (al (C st x y a b Q B.kind d g ?_))));rw[<-r1,<-r2];exact h
instance Up(L:KeyKind)(xs:Array Keyed)(lo hi:Nat):Prop:=∀i j,lo<=i->i<=j->j<hi->L.kle (KK L xs i) (KK L xs j)
instance Dn(L:KeyKind)(xs:Array Keyed)(lo hi:Nat):Prop:=∀i j,lo<=i->i<=j->j<hi->L.kle (KK L xs j) (KK L xs i)
def Up.one{c:Array Keyed}{a b:Nat}(h:b<=a+1):Up L c a b:=λi j e d f=>by
 have:i=j:=by omega
 subst this;exact KeyOrd.kle_refl _
def Up.snoc{b:Array Keyed}{a n:Nat}(h:Up L b a (a+n))(l:1<=n)(g:L.kle (KK L b (a+n-1)) (KK L b (a+n))):Up L b a (a+(n+1)):=λi j d e c=>by
 by_cases f:j<a+n
 ·exact h i j d e f
 ·cases Fk (Fi c) (FH f)
  rcases Nat.lt_or_eq_of_le e with c | c
  ·exact KeyOrd.kle_trans (h i (a+n-1) d (Nat.le_sub_one_of_lt c) (Nat.sub_lt (A3 l (EV n a)) Nat.one_pos)) g
  ·subst c;exact KeyOrd.kle_refl _
def Dn.snoc{b:Array Keyed}{a n:Nat}(h:Dn L b a (a+n))(l:1<=n)(g:L.kle (KK L b (a+n)) (KK L b (a+n-1))):Dn L b a (a+(n+1)):=λi j d e c=>by
 by_cases f:j<a+n
 ·exact h i j d e f
 ·cases Fk (Fi c) (FH f)
  rcases Nat.lt_or_eq_of_le e with c | c
  ·exact KeyOrd.kle_trans g (h i (a+n-1) d (Nat.le_sub_one_of_lt c) (Nat.sub_lt (A3 l (EV n a)) Nat.one_pos))
  ·subst c;exact KeyOrd.kle_refl _
def Bz(xs ys:Array Keyed)(lo hi:Nat):Prop:=∀i,(i<lo\/hi<=i)->ys[i]?=xs[i]?
def gP{a:Array Keyed}{i j k:Nat}(b:j<=a.size):KK L (mirror a i j ((j-i) / 2)) k=if i<=k/\k<j then KK L a (i+j-1-k) else KK L a k:=KK_mirror b k
def kW(C:Db prog w A E s L knd)(e:KeysOf L a₀)(B:Bs a₀ knd P st){d f a:Nat}(b:d+f<=a₀.size)(c:1<=a)(j:a<=f)(g:Up L (arrOf st) d (d+a)){Q:Option (Option Nat)×Nat->SortSt->Prop}(h:∀n,a<=n->n<=f->Up L (arrOf st) d (d+n)->(n=f\/L.blt (KK L (arrOf st) (d+n)) (KK L (arrOf st) (d+n-1))=true)->Q (none,n) st) :
 wpS 'r' A E s (forIn [a:f] ((none,a):Option (Option Nat)×Nat) λ_ r=>do
  let x <-ltAt' (d+r.2) (d+r.2-1)
  match x with
  | some b=>if b=true then pure (ForInStep.done (none,r.2)) else pure (ForInStep.yield (none,r.2+1))
  | _=>pure (ForInStep.done (some none,r.2))) Q st:=by
 refine bb (I:=λx c b=>b=st/\c=(none,x)/\Up L (arrOf st) d (d+x)) (λi c b m l hI125=>?_) (λc b hI124=>?_) ⟨rfl,rfl,g⟩
 ·obtain⟨l,c,g⟩:=hI125
  subst l c;refine af (d6 C e B 'o' 'o' ?_);show wpS _ _ _ _ (if L.blt (KK L (arrOf b) (d+i)) (KK L (arrOf b) (d+i-1))=true then _ else _) _ _;cases e:L.blt (KK L (arrOf b) (d+i)) (KK L (arrOf b) (d+i-1))
  ·rw[if_neg BQ]
   exact al {rfl,rfl,g.snoc 'o' e}
  ·rw[if_pos rfl]
   exact al (h i m 'o' g (.inr e))
 ·obtain⟨l,c,g⟩:=hI124
  subst l c;have e:max a f=f:=by omega
  rw[e] at g ⊢;exact h f j (Al _) g (.inl rfl)
def Bz.refl{a:Array Keyed}{b c:Nat}:Bz a a b c:=λ_ _=>rfl
def Bz.trans{e g f:Array Keyed}{d c:Nat}(a:Bz e g d c)(b:Bz g f d c):Bz e f d c:=λi h=>(b i h).trans (a i h)
def Bz.mir{a:Array Keyed}{c b p q:Nat}(d:q<=a.size)(f:c<=p)(e:q<=b):Bz a (mirror a p q ((q-p) / 2)) c b:=λi h=>by
 rw[getElem?_mirror_all d,if_neg 'o']
def gQ{p q k:Nat}(a:p<=k)(b:k<q):p<=p+q-1-k/\p+q-1-k<q:=by
 obtain⟨d,rfl⟩:=Nat.le.dest b;rw[show p+(k.succ+d)-1-k=p+d by omega];exact{Ce p d,Nat.add_lt_add_right (Nat.lt_succ_of_le a) d}
def gR{b:Array Keyed}{p q:Nat}{c:L.α}(d:q<=b.size)(h:∀i,p<=i->i<q->KK L b i=c)(k:Nat):KK L (mirror b p q ((q-p) / 2)) k=KK L b k:=by
 rw[gP d];by_cases a:p<=k/\k<q
 ·have z:=gQ a.1 a.2
  rw[if_pos a,h k a.1 a.2,h _ z.1 z.2]
 ·rw[if_neg a]
def Dn.turn{c:Array Keyed}{a n:Nat}(f:a+n<=c.size)(h:Dn L c a (a+n)):Up L (mirror c a (a+n) ((a+n-a) / 2)) a (a+n):=λi j b d e=>by
 have g:=Cc d e;have i:=Aw b d;rw[gP f,gP f,if_pos ⟨b,g⟩,if_pos ⟨i,e⟩];exact h _ _ (gQ i e).1 (Nat.sub_le_sub_left d _) (gQ b g).2
def Dn.congr{a c:Array Keyed}{d b:Nat}(h:Dn L a d b)(e:∀k,KK L c k=KK L a k):Dn L c d b:=λi j f g l=>by rw[e i,e j];exact h i j f g l
def kX(C:Db prog w A E s L knd)(e:KeysOf L a₀)(B:Bs a₀ knd P st){a c n:Nat}(g:a+c<=a₀.size)(f:1<=n)(i:n<=c)(d:Dn L (arrOf st) a (a+n)){Q:Option Nat->SortSt->Prop}(h:∀m b,Bs a₀ knd P b->1<=m->m<=c->Up L (arrOf b) a (a+m)->Bz (arrOf st) (arrOf b) a (a+c)->Q (some m) b) :
 wpS 'r' A E s (do
  reverseSlice' a (a+n)
  let r <-forIn [n:c] ((none,n):Option (Option Nat)×Nat) λ_ r=>do
   let x <-ltAt' (a+r.2) (a+r.2-1)
   match x with
   | some b=>if b=true then pure (ForInStep.done (none,r.2)) else pure (ForInStep.yield (none,r.2+1))
   | _=>pure (ForInStep.done (some none,r.2))
  match r.1 with
  | some r=>pure r
  | none=>pure (some r.2)) Q st:=by
 have b:a+n<=(arrOf st).size:=by rw[B.size];omega
 rw[reverseSlice'_eq];refine af (bt (af (kW C e (B.arr (mirror_perm _ _ _ _)) g f i (Dn.turn b d) λm f c e _=>?_)));exact al (h m _ (B.arr (mirror_perm _ _ _ _)) 'o' c e (Bz.mir b (Al _) 'o'))
def kY(C:Db prog w A E s L knd)(u:KeysOf L a₀)(B:Bs a₀ knd P st){b d n:Nat}(F:b+d<=a₀.size)(g:1<=n)(l:n<=d)(f:Dn L (arrOf st) b (b+n)){Q:Option Nat->SortSt->Prop}(h:∀m a,Bs a₀ knd P a->1<=m->m<=d->Up L (arrOf a) b (b+m)->Bz (arrOf st) (arrOf a) b (b+d)->Q (some m) a) :
 wpS 'r' A E s (do
  liftM (rule "list.sort.descending-run")
  let r <-forIn [n:d] ((none,n,0):Option (Option Nat)×Nat×Nat) λ_ r=>do
   let x <-ltAt' (b+r.2.1) (b+r.2.1-1)
   match x with
   | some c=>
     if c=true then
      if r.2.2>0 then do
       reverseSlice' (b+r.2.1-(r.2.2+1)) (b+r.2.1)
       pure (ForInStep.yield (none,r.2.1+1,0))
      else pure (ForInStep.yield (none,r.2.1+1,0))
     else do
      let x <-ltAt' (b+r.2.1-1) (b+r.2.1)
      match x with
      | some e=>if e=true then pure (ForInStep.done (none,r.2.1,r.2.2)) else pure (ForInStep.yield (none,r.2.1+1,r.2.2+1))
      | _=>pure (ForInStep.done (some none,r.2.1,r.2.2))
   | _=>pure (ForInStep.done (some none,r.2.1,r.2.2))
  match r.1 with
  | some r=>pure r
  | none=>
    if r.2.2>0 then do
     reverseSlice' (b+r.2.1-(r.2.2+1)) (b+r.2.1)
     reverseSlice' b (b+r.2.1)
     let r <-forIn [r.2.1:d] ((none,r.2.1):Option (Option Nat)×Nat) λ_ r=>do
      let x <-ltAt' (b+r.2) (b+r.2-1)
      match x with
      | some c=>if c=true then pure (ForInStep.done (none,r.2)) else pure (ForInStep.yield (none,r.2+1))
      | _=>pure (ForInStep.done (some none,r.2))
     match r.1 with
     | some r=>pure r
     | none=>pure (some r.2)
    else do
     reverseSlice' b (b+r.2.1)
     let r <-forIn [r.2.1:d] ((none,r.2.1):Option (Option Nat)×Nat) λ_ r=>do
      let x <-ltAt' (b+r.2) (b+r.2-1)
      match x with
      | some c=>if c=true then pure (ForInStep.done (none,r.2)) else pure (ForInStep.yield (none,r.2+1))
      | _=>pure (ForInStep.done (some none,r.2))
     match r.1 with
     | some r=>pure r
     | none=>pure (some r.2)) Q st:=by
 refine af (wpS_lift (bc {rfl,?_}));refine af (aZ (bb (I:=λx c a=>∃q,c=(none,x,q)/\Bs a₀ knd P a/\x<=d/\Dn L (arrOf a) b (b+x)/\q+1<=x/\(∀i,b+x-(q+1)<=i->i<b+x->KK L (arrOf a) i=KK L (arrOf a) (b+x-1))/\Bz (arrOf st) (arrOf a) b (b+d)) (Q:=λc a=>∃x q,c=(none,x,q)/\1<=x/\Bs a₀ knd P a/\x<=d/\Dn L (arrOf a) b (b+x)/\q+1<=x/\(∀i,b+x-(q+1)<=i->i<b+x->KK L (arrOf a) i=KK L (arrOf a) (b+x-1))/\Bz (arrOf st) (arrOf a) b (b+d))
  (λx c a e d r=>?_) (λc a r=>?_) {0,rfl,B,l,f,g,λi z y=>by rw[show i=b+n-1 by omega],Bz.refl}) λc a r=>?_)
 ·obtain⟨q,e,d,f,c,v,n,l⟩:=r
  subst e;have o:b+x<=(arrOf a).size:=by rw[d.size];omega
  refine af (d6 C u d (i:=b+x) (j:=b+x-1) 'o' 'o' ?_);show wpS _ _ _ _ (if L.blt (KK L (arrOf a) (b+x)) (KK L (arrOf a) (b+x-1))=true then _ else _) _ _;cases B:L.blt (KK L (arrOf a) (b+x)) (KK L (arrOf a) (b+x-1))
  ·rw[if_neg BQ]
   refine af (d6 C u d (i:=b+x-1) (j:=b+x) 'o' 'o' ?_);show wpS _ _ _ _ (if L.blt (KK L (arrOf a) (b+x-1)) (KK L (arrOf a) (b+x))=true then _ else _) _ _;cases p:L.blt (KK L (arrOf a) (b+x-1)) (KK L (arrOf a) (b+x))
   ·rw[if_neg BQ]
    have g:KK L (arrOf a) (b+x)=KK L (arrOf a) (b+x-1):=L.total _ _ B p;refine al {q+1,rfl,d,'o',c.snoc 'o' (by rw[g];exact KeyOrd.kle_refl _),'o',λi z y=>?_,l};have G:b+(x+1)-1=b+x:=by omega
    rw[G,g];by_cases p:i=b+x
    ·rw[p,g]
    ·exact n i 'o' 'o'
   ·rw[if_pos rfl]
    exact al {x,q,rfl,'o',d,f,c,v,n,l}
  ·rw[if_pos rfl]
   have G:L.kle (KK L (arrOf a) (b+x)) (KK L (arrOf a) (b+x-1)):=KeyOrd.kle_of_klt B;by_cases g:q>0
   ·show wpS _ _ _ _ (if q>0 then _ else _) _ _
    rw[if_pos g];show wpS _ _ _ _ (reverseSlice' (b+x-(q+1)) (b+x) >>= λ_=>pure (ForInStep.yield (none,x+1,0))) _ _;rw[reverseSlice'_eq];have p:∀k,KK L (mirror (arrOf a) (b+x-(q+1)) (b+x) ((b+x-(b+x-(q+1))) / 2)) k=KK L (arrOf a) k:=gR o n;refine af (bt (al {0,rfl,d.arr (mirror_perm _ _ _ _),'o',(c.congr p).snoc 'o' (by rw[p,p];exact G),'o',λi z y=>?_,l.trans (Bz.mir o 'o' 'o')}));rw[show i=b+(x+1)-1 by omega]
   ·show wpS _ _ _ _ (if q>0 then _ else _) _ _
    rw[if_neg g];refine al {0,rfl,d,'o',c.snoc 'o' G,'o',λi z y=>?_,l};rw[show i=b+(x+1)-1 by omega]
 ·obtain⟨q,e,d,f,c,v,n,l⟩:=r
  exact{_,q,e,'o',d,f,c,v,n,l}
 ·obtain⟨x,q,e,y,d,f,c,v,n,l⟩:=r
  subst e;have o:b+x<=(arrOf a).size:=by rw[d.size];omega
  by_cases g:q>0
  ·show wpS _ _ _ _ (if q>0 then _ else _) _ _
   rw[if_pos g];rw[reverseSlice'_eq (b+x-(q+1)) (b+x)];have p:∀k,KK L (mirror (arrOf a) (b+x-(q+1)) (b+x) ((b+x-(b+x-(q+1))) / 2)) k=KK L (arrOf a) k:=gR o n;refine af (bt ?_);exact kX C u (d.arr (mirror_perm _ _ _ _)) F y f (c.congr p) λm a n e r v o2=>h m a n e r v (l.trans ((Bz.mir o 'o' 'o').trans o2))
  ·show wpS _ _ _ _ (if q>0 then _ else _) _ _
   rw[if_neg g];exact kX C u d F y f c λm a n e r v o2=>h m a n e r v (l.trans o2)
open H in
def kZ(C:Db prog w A E s L knd)(e:KeysOf L a₀)(B:Bs a₀ knd P st){a c:Nat}(l:a+c<=a₀.size)(d:1<=c){Q:Option Nat->SortSt->Prop}(h:∀m b,Bs a₀ knd P b->1<=m->m<=c->Up L (arrOf b) a (a+m)->Bz (arrOf st) (arrOf b) a (a+c)->Q (some m) b):wpS 'r' A E s (countRun' a c) Q st:=by
 rw[countRun'_eq];refine af ?_;refine kW C e B l (Al 1) d (Up.one 'o') λn f i b j=>?_
 dsimp only;by_cases g:n=c
 ·rw[if_pos (by rw[g];exact ce _)]
  exact al (h n st B f i b Bz.refl)
 rw[if_neg (by simpa using g)];have d:L.blt (KK L (arrOf st) (a+n)) (KK L (arrOf st) (a+n-1))=true:=j.resolve_left g;by_cases q:n>1
 ·rw[if_pos q]
  refine af (d6 C e B 'o' 'o' ?_);show wpS _ _ _ _ (if L.blt (KK L (arrOf st) a) (KK L (arrOf st) (a+n-1))=true then _ else _) _ _;cases g:L.blt (KK L (arrOf st) a) (KK L (arrOf st) (a+n-1));case true=>
   rw[if_pos rfl];exact al (h n st B f i b Bz.refl)
  rw[if_neg BQ];have r:a+n<=(arrOf st).size:=by rw[B.size];omega
  have same:∀i,a<=i->i<a+n->KK L (arrOf st) i=KK L (arrOf st) a:=λi c o=>by
   have j:=b a i (Al _) c o;have p:=KeyOrd.kle_trans (b i (a+n-1) c 'o' 'o') g;exact KeyOrd.kle_antisymm p j
  have b:=gR r same;rw[reverseSlice'_eq a (a+n)];refine af (bt ?_);have g:Dn L (arrOf st) a (a+n):=λi j c o u=>by rw[same i c 'o',same j 'o' u];exact KeyOrd.kle_refl _
  have p:=kY (Q:=Q) C e (B.arr (mirror_perm _ _ _ _)) l (n:=n+1) 'o' 'o' ((g.congr b).snoc f (by rw[b,b];exact KeyOrd.kle_of_klt d)) λm b z y v x o2=>h m b z y v x ((Bz.mir r (Al _) 'o').trans o2)
  refine Eq.mp ?_ p;congr 1;congr 1;funext _u;congr 1;funext i;obtain⟨r1,r2,r3⟩:=i;cases r1 with
  | some r=>rfl
  | none=>
    dsimp only;split
    ·congr 1;funext _v;congr 1;funext _v;congr 1;funext j;obtain⟨b,m⟩:=j;cases b<;>rfl
    ·congr 1;funext _v;congr 1;funext j;obtain⟨b,m⟩:=j;cases b<;>rfl
 ·rw[if_neg q]
  have v:n=1:=by omega
  have g:Dn L (arrOf st) a (a+n):=λi j c o u=>by
   have:i=j:=by omega
   subst this;exact KeyOrd.kle_refl _
  have p:=kY (Q:=Q) C e B l (n:=n+1) 'o' 'o' (g.snoc f (KeyOrd.kle_of_klt d)) h;refine Eq.mp ?_ p;congr 1;congr 1;funext _u;congr 1;funext i;obtain⟨r1,r2,r3⟩:=i;cases r1 with
  | some r=>rfl
  | none=>
    dsimp only;split
    ·congr 1;funext _v;congr 1;funext _v;congr 1;funext j;obtain⟨b,m⟩:=j;cases b<;>rfl
    ·congr 1;funext _v;congr 1;funext j;obtain⟨b,m⟩:=j;cases b<;>rfl
end
section
variable{knd:SortKind}{st:SortSt}
def gU{b:Array Keyed}{a d k:Nat}(e:a<b.size)(c:d<=a):KK L (bubble b a d) k=if k=a-d then KK L b a else if a-d<k/\k<=a then KK L b (k-1) else KK L b k:=KK_bubble e c k
open H in
theorem Up.of_next{a:Array Keyed}{c e:Nat}(h:∀i,c<=i->i+1<e->L.kle (KK L a i) (KK L a (i+1))):Up L a c e:=λi j g b=>by
 obtain⟨d,rfl⟩:=Nat.le.dest b;clear b;induction d with
 | zero=>exact λ_=>KeyOrd.kle_refl _
 | succ d f=>exact λb=>KeyOrd.kle_trans (f (Nat.lt_of_succ_lt b)) (h (i+d) (Aw g (Ce i d)) b)
section
variable{xs:Array Keyed}{lo l d t:Nat}
def k6(b:lo+(l+d)<xs.size)(h:t<l):KK L (bubble xs (lo+(l+d)) d) (lo+t)=KK L xs (lo+t):=by
 have a:=Ej h lo;rw[gU b (Aw (EV d l) (EV _ lo)),<-Eo,Nat.add_sub_cancel,if_neg (Bf a),if_neg λz=>Nat.lt_asymm a z.1]
def k7(a:lo+(l+d)<xs.size):KK L (bubble xs (lo+(l+d)) d) (lo+l)=KK L xs (lo+(l+d)):=by
 rw[gU a (Aw (EV d l) (EV _ lo)),if_pos (by rw[<-Eo,Nat.add_sub_cancel])]
def gV(b:lo+(l+d)<xs.size)(a:l<=t)(c:t<l+d):KK L (bubble xs (lo+(l+d)) d) (lo+(t+1))=KK L xs (lo+t):=by
 have a:=Ej (Nat.lt_succ_of_le a) lo;rw[gU b (Aw (EV d l) (EV _ lo)),<-Eo lo l,Nat.add_sub_cancel,if_neg (Nat.ne_of_gt a),if_pos {a,by rw[Eo];exact C5 c lo}];rfl
open H in
def Up.ins{k:Nat}(b:lo+k<xs.size)(a:l<=k)(u:Up L xs lo (lo+k))(c:∀i,i<l->L.kle (KK L xs (lo+i)) (KK L xs (lo+k)))(e:∀i,l<=i->i<k->L.kle (KK L xs (lo+k)) (KK L xs (lo+i))):Up L (bubble xs (lo+k) (k-l)) lo (lo+(k+1)):=by
 obtain⟨d,rfl⟩:=Nat.le.dest a;rw[GQ];refine Up.of_next λi f a=>?_
 obtain⟨t,rfl⟩:=Nat.le.dest f;have a:t<l+d:=Nat.lt_of_add_lt_add_left (n:=lo) (Nat.lt_of_succ_lt_succ a);have i:=u (lo+t) (lo+(t+1)) f (Nat.le_succ _);rcases Nat.lt_trichotomy t l with h | h | h
 ·rw[k6 b h,Eo]
  rcases Nat.lt_or_eq_of_le (Nat.succ_le_of_lt h) with g | g
  ·rw[k6 b g];exact i (Ej (A3 g (Ce l d)) lo)
  ·rw[show lo+(t+1)=lo+l by rw[<-g],k7 b];exact c t h
 ·subst h
  rw[k7 b,Eo,gV b (Al _) a];exact e t (Al _) a
 ·obtain⟨t,rfl⟩:∃u,t=u+1:={t-1,(Nat.succ_pred (Nat.ne_of_gt (Cc (AR l) h))).symm}
  have h:=Fi h;rw[gV b h (Nat.lt_of_succ_lt a),Eo,gV b (Nat.le_succ_of_le h) a];exact u (lo+t) (lo+(t+1)) (Ce _ _) (Nat.le_succ _) (Ej a lo)
end
def mid{l r:Nat}(h:l<r):l<=(l+r) / 2/\(l+r) / 2<r:=by omega
def k8(C:Db prog w A E s L knd)(U:KeysOf L a₀)(B:Bs a₀ knd P st){d n M:Nat}(l:d+n<=a₀.size)(a:M<=n)(W:Up L (arrOf st) d (d+M)){Q:Bool->SortSt->Prop}(h:∀f,Bs a₀ knd P f->Up L (arrOf f) d (d+n)->Bz (arrOf st) (arrOf f) d (d+n)->Q true f):wpS 'r' A E s (binarySort' d n M) Q st:=by
 rw[binarySort'_eq];refine af (aZ (bb (I:=λk c f=>c=(none,())/\Bs a₀ knd P f/\Up L (arrOf f) d (d+min k n)/\Bz (arrOf st) (arrOf f) d (d+n)) (Q:=λc f=>c=(none,())/\Bs a₀ knd P f/\Up L (arrOf f) d (d+n)/\Bz (arrOf st) (arrOf f) d (d+n)) (λk c f a u s=>?_) (λc f s=>?_) {rfl,B,?_,Bz.refl}) λc f s=>?_)
 ·obtain⟨e,v,g,F⟩:=s
  subst e;rw[DC (Bw u)] at g;have N:∀{i},i<=k->d+i<a₀.size:=λh=>A3 (Ej (Cc h u) d) l
  have A:d+k<(arrOf f).size:=by rw[v.size];exact N (Al k)
  refine af (aZ (bb (I:=λx c a=>a=f/\∃l r,c=(none,l,r)/\l<=r/\r<=k/\r+x<=l+k/\(∀i,i<l->L.kle (KK L (arrOf f) (d+i)) (KK L (arrOf f) (d+k)))/\∀i,r<=i->i<k->L.kle (KK L (arrOf f) (d+k)) (KK L (arrOf f) (d+i))) (Q:=λc a=>a=f/\∃l r,c=(none,l,r)/\l<=k/\(∀i,i<l->L.kle (KK L (arrOf f) (d+i)) (KK L (arrOf f) (d+k)))/\∀i,l<=i->i<k->L.kle (KK L (arrOf f) (d+k)) (KK L (arrOf f) (d+i))) (λx c a o m s=>?_) (λc a s=>?_) {rfl,0,k,rfl,AR k,Al k,BX (CK k 0),λi P=>(Nat.not_lt_zero i P).elim,λi y B=>(CJ i (A3 B y)).elim}) λc a s=>?_)
  ·obtain⟨G,l,r,E,z,q,R,p,o⟩:=s
   subst G E;dsimp only;by_cases m:l>=r
   ·rw[if_pos m]
    have:=Fk z m;subst this;exact al ⟨rfl,l,l,rfl,q,p,o⟩
   ·rw[if_neg m]
    obtain⟨T,J⟩:=mid (Nat.lt_of_not_le m);generalize (l+r) / 2=m at T J;have O:=A3 J q;refine af (d6 C U v (i:=d+k) (j:=d+m) (N (Al k)) (N (Bw O)) ?_);show wpS _ _ _ _ (if L.blt (KK L (arrOf a) (d+k)) (KK L (arrOf a) (d+m))=true then _ else _) _ _;cases C:L.blt (KK L (arrOf a) (d+k)) (KK L (arrOf a) (d+m))
    ·rw[if_neg BQ]
     refine al {rfl,m+1,r,rfl,J,q,'o',λi y=>?_,o};exact KeyOrd.kle_trans (g (d+i) (d+m) (Ce d i) (C5 (Fi y) d) (Ej O d)) C
    ·rw[if_pos rfl]
     refine al {rfl,l,m,rfl,T,Bw O,(by show m+x+1<=l+k;rw[Nat.add_right_comm];exact Aw (F7 J x) R),p,λi y B=>?_};exact KeyOrd.kle_trans (KeyOrd.kle_of_klt C) (g (d+m) (d+i) (Ce d m) (C5 y d) (Ej B d))
  ·obtain⟨G,l,r,E,z,q,R,p,o⟩:=s
   have:=Fk z (Nat.le_of_add_le_add_right (b:=k) (by simpa using R));subst this;exact⟨G,l,l,E,q,p,o⟩
  ·obtain⟨G,l,r,E,m,p,o⟩:=s
   subst G E;show wpS _ _ _ _ (moveDown' (d+k) (d+l) >>= λ_=>pure (ForInStep.yield (none,()))) _ _;rw[moveDown'_eq];have q:d+k-(d+l)<=d+k:=Nat.sub_le _ _;refine af (bt (al {rfl,v.arr (bubble_perm _ _ _),?_,F.trans λi P=>?_}))
   ·rw[DC u,Nat.add_sub_add_left]
    exact Up.ins A m g p o
   ·show (bubble (arrOf a) (d+k) (d+k-(d+l)))[i]?=_
    rw[Nat.add_sub_add_left] at q ⊢;have z:d<=i->i<=d+k->False:=λa b=>P.elim (λc=>CJ i (A3 c a)) λc=>CJ i (Cc b (A3 (Ej u d) c))
    have e:d+k-(k-l)=d+l:=by omega
    rw[getElem?_bubble A _ q,e,if_neg λc=>z (by rw[c];exact Ce d l) (by rw[c];exact C5 m d),if_neg λc=>z (Aw (Ce d l) (Bw c.1)) c.2]
 ·obtain⟨e,v,g,F⟩:=s
  rw[Nat.min_eq_right (Nat.le_max_right _ n)] at g;exact⟨e,v,g,F⟩
 ·by_cases a:M=0
  ·exact Up.one 'o'
  ·exact λi j y B a=>W i j y B 'o'
 ·obtain⟨e,v,g,F⟩:=s
  subst e;exact al (h f v g F)
end
local macro_rules
 | `(tactic| omega)=>`(tactic| omega +splitDisjunctions)
abbrev SM:=StateT SortSt Sem
def DZ:Bool->Keyed->Array Keyed->Nat->Nat->Nat->SM (Option Nat):=sortPriv% PySem.Builtin.gallop
instance far(left:Bool)(key:Keyed)(arr:Array Keyed)(base i:Nat):SM (Option Bool):=do
 let x <-elem' arr (base+i)
 if left then lt' x key else return (<-lt' key x).map (!·)
def Hf(left:Bool)(key:Keyed)(arr:Array Keyed)(base n p0 q0:Nat):SM (Option Nat):=do
 let mut p:=p0
 let mut q:=q0
 for _ in [0:n] do
  if p>=q then break
  let m:=p+(q-p) / 2
  let some y <-far left key arr base m | return none
  if y then p:=m+1 else q:=m
 return some q
def rz(left:Bool)(c:Keyed)(d:Array Keyed)(b n a:Nat):DZ left c d b n a=(do
 let mut u:=0
 let mut v:=1
 let some r <-far left c d b a | return none
 if r then
  for _ in [0:n] do
   if v>=n-a then break
   let some y <-far left c d b (a+v) | return none
   if !y then break
   u:=v
   v:=2*v+1
  Hf left c d b n (a+u+1) (a+min v (n-a))
 else
  for _ in [0:n] do
   if v>=a+1 then break
   let some y <-far left c d b (a-v) | return none
   if y then break
   u:=v
   v:=2*v+1
  Hf left c d b n (a+1-min v (a+1)) (a-u)):=rfl
section
variable{prog:Program}{w:World}{A:Around}{E:Value->Shared->Prop}{s:Shared}{L:KeyKind}{knd:SortKind}{st:SortSt}{left:Bool}{key:Keyed}{arr:Array Keyed}{base n:Nat}{f:Nat->Bool}
structure Cut(prog:Program)(w:World)(A:Around)(E:Value->Shared->Prop)(s:Shared)(knd:SortKind)(left:Bool)(key:Keyed)(arr:Array Keyed)(base n:Nat)(f:Nat->Bool):Prop where
 far:∀(i:Nat) (st:SortSt) (Q:Option Bool->SortSt->Prop),i<n->kindOf st=knd->Q (some (f i)) st->wpS 'r' A E s (far left key arr base i) Q st
 mono:∀i j,i<=j->j<n->f j=true->f i=true
def rA{p q:Nat}(h:p<q):p<=p+(q-p) / 2/\p+(q-p) / 2<q:=by omega
def rB{u v h n:Nat}(b:h+u<n)(c:u<v):h+u+1<=h+min v (n-h)/\h+min v (n-h)<=n:=
 have a:=Cc (Ce h u) b
 {C5 (Nat.le_min.mpr {c,Nat.le_sub_of_add_le (by rw[Nat.succ_add,CK];exact b)}) h,Aw (C5 (Nat.min_le_right _ _) h) (BX (Ff (Bw a)))}
def rC{u v h:Nat}(a:u<=h)(b:u<v):h+1-min v (h+1)<=h-u:=by
 have:=Nat.sub_le_sub_left (Nat.le_min.mpr {b,Em a}) (h+1);rwa [Nat.add_sub_add_right] at this
def k9(F:Cut prog w A E s knd left key arr base n f)(u:kindOf st=knd){p q:Nat}(g:p<=q)(l:q<=n)(e:∀i,i<p->f i=true)(d:∀i,q<=i->i<n->f i=false){Q:Option Nat->SortSt->Prop}(h:∀k,k<=n->(∀i,i<k->f i=true)->(∀i,k<=i->i<n->f i=false)->Q (some k) st):wpS 'r' A E s (Hf left key arr base n p q) Q st:=by
 unfold Hf;refine af (aZ (bb (I:=λx c a=>a=st/\∃p q,c=(none,p,q)/\p<=q/\q<=n/\q+x<=p+n/\(∀i,i<p->f i=true)/\∀i,q<=i->i<n->f i=false) (Q:=λc a=>a=st/\∃p,c=(none,p,p)/\p<=n/\(∀i,i<p->f i=true)/\∀i,p<=i->i<n->f i=false) (λx c a o m j=>?_) (λc a j=>?_) {rfl,p,q,rfl,g,l,Aw l (EV n p),e,d}) λc a j=>?_)
 ·obtain⟨l,p,q,g,v,c,r,d,e⟩:=j
  subst l g;dsimp only;by_cases a:p>=q
  ·rw[if_pos a]
   cases Fk v a;exact al ⟨rfl,p,rfl,c,d,e⟩
  ·rw[if_neg a]
   obtain⟨y,o⟩:=rA (Nat.lt_of_not_le a);generalize p+(q-p) / 2=m at y o;have z:=A3 o c;refine af (F.far _ _ _ z u ?_);show wpS _ _ _ _ (if f m=true then _ else _) _ _;cases u:f m
   ·rw[if_neg BQ]
    refine al {rfl,p,m,rfl,y,Bw z,Aw (BX (Nat.add_right_comm m x 1)) (Aw (F7 o x) r),d,λi a B=>?_};cases x:f i
    ·rfl
    ·rw[F.mono _ i a B x] at u;cases u
   ·rw[if_pos rfl]
    refine al {rfl,m+1,q,rfl,o,c,Aw (Em r) (Aw (Em (F7 y n)) (BX (Nat.add_right_comm m n 1))),λi a=>?_,e};exact F.mono i _ (Fi a) z u
 ·obtain⟨l,p,q,g,v,c,r,d,e⟩:=j
  cases Fk v (Nat.le_of_add_le_add_right (b:=n) (by simpa using r));exact⟨l,p,g,c,d,e⟩
 ·obtain⟨l,p,g,c,d,e⟩:=j
  subst l g;exact al (h p c d e)
def dn(F:Cut prog w A E s knd left key arr base n f)(G:kindOf st=knd){a:Nat}(B:a<n){Q:Option Nat->SortSt->Prop}(h:∀k,k<=n->(∀i,i<k->f i=true)->(∀i,k<=i->i<n->f i=false)->Q (some k) st):wpS 'r' A E s (DZ left key arr base n a) Q st:=by
 rw[rz];have O:∀i,i<n->f i=false->∀j,i<=j->j<n->f j=false:=λi p y j d b=>by
  cases c:f j
  ·rfl
  ·rw[F.mono i j d b c] at y;cases y
 have J:∀{x v:Nat},x<v->v<2*v+1/\x+1<2*v+1:=λh=>{Nat.lt_succ_of_le (Nat.le_mul_of_pos_left _ (Fq 1)),Nat.succ_lt_succ (A3 h (Nat.le_mul_of_pos_left _ (Fq 1)))}
 refine af (F.far a _ _ B G ?_);dsimp only;cases P:f a
 ·rw[if_neg BQ]
  refine af (aZ (bb (I:=λx c b=>b=st/\∃u v,c=(none,u,v)/\u<=a/\f (a-u)=false/\u<v/\x<v) (Q:=λc b=>b=st/\∃u v,c=(none,u,v)/\u<=a/\f (a-u)=false/\u<v/\(v>=a+1\/f (a-v)=true)) (λx c b N M o=>?_) (λc b o=>?_) {rfl,0,1,rfl,AR _,P,Fq 0,Fq 0}) λc b o=>?_)
  ·obtain⟨m,u,v,l,e,g,j,d⟩:=o
   subst m l;dsimp only;by_cases q:v>=a+1
   ·rw[if_pos q]
    exact al {rfl,u,v,rfl,e,g,j,.inl q}
   ·rw[if_neg q]
    refine af (F.far _ _ _ (Cc (Nat.sub_le _ _) B) G ?_);show wpS _ _ _ _ (if f (a-v)=true then _ else _) _ _;cases y:f (a-v)
    ·rw[if_neg BQ]
     exact al {rfl,v,2*v+1,rfl,Fi (Nat.lt_of_not_le q),y,J d}
    ·rw[if_pos rfl]
     exact al {rfl,u,v,rfl,e,g,j,.inr y}
  ·obtain⟨m,u,v,l,e,g,j,d⟩:=o
   exact{m,u,v,l,e,g,j,.inl (Aw B (Bw (Cc (Nat.le_max_right 0 n) d)))}
  ·obtain⟨m,u,v,l,e,g,j,d⟩:=o
   subst m l;have z:=Cc (Nat.sub_le a u) B;refine k9 F G (rC e j) (Bw z) (λi p=>?_) (λi r C=>O _ z g i r C) h;rcases d with d | d
   ·rw[Nat.min_eq_right d,Nat.sub_self] at p;exact(Nat.not_lt_zero i p).elim
   ·by_cases z:v<=a+1
    ·rw[DC z] at p
     exact F.mono i (a-v) (Nat.le_sub_of_add_le (Fi (F6 p))) (Cc (Nat.sub_le _ _) B) d
    ·rw[Nat.min_eq_right (Nat.le_of_not_le z),Nat.sub_self] at p;exact(Nat.not_lt_zero i p).elim
 ·rw[if_pos rfl]
  refine af (aZ (bb (I:=λx c b=>b=st/\∃u v,c=(none,u,v)/\a+u<n/\f (a+u)=true/\u<v/\x<v) (Q:=λc b=>b=st/\∃u v,c=(none,u,v)/\a+u<n/\f (a+u)=true/\u<v/\(v>=n-a\/a+v<n/\f (a+v)=false)) (λx c b N M o=>?_) (λc b o=>?_) {rfl,0,1,rfl,B,P,Fq 0,Fq 0}) λc b o=>?_)
  ·obtain⟨m,u,v,l,e,g,j,d⟩:=o
   subst m l;dsimp only;by_cases q:v>=n-a
   ·rw[if_pos q]
    exact al {rfl,u,v,rfl,e,g,j,.inl q}
   ·rw[if_neg q]
    have b:a+v<n:=by rw[CK];exact F6 (Nat.lt_of_not_le q)
    refine af (F.far _ _ _ b G ?_);show wpS _ _ _ _ (if (!f (a+v))=true then _ else _) _ _;cases y:f (a+v)
    ·rw[if_pos (show (!false)=true from rfl)]
     exact al {rfl,u,v,rfl,e,g,j,.inr ⟨b,y⟩}
    ·rw[if_neg 'z']
     exact al {rfl,v,2*v+1,rfl,b,y,J d}
  ·obtain⟨m,u,v,l,e,g,j,d⟩:=o
   exact{m,u,v,l,e,g,j,.inl (Aw (Nat.sub_le n a) (Bw (Cc (Nat.le_max_right 0 n) d)))}
  ·obtain⟨m,u,v,l,e,g,j,d⟩:=o
   subst m l;obtain⟨r,C⟩:=rB e j;refine k9 F G r C (λi p=>F.mono i (a+u) (Fi p) e g) (λi r C=>?_) h;rcases d with d | ⟨d,b⟩
   ·rw[Nat.min_eq_right d,Ff (Bw B)] at r;exact(CJ i (A3 C r)).elim
   ·rw[DC (Bw (Nat.lt_sub_of_add_lt (CK v a▸d)))] at r;exact O _ d b i r C
end
end Ts
namespace Ts
open PySem PyProof.Rows
instance mlo:Array Keyed->Array Keyed->SM (Array Keyed):=sortPriv% PySem.Builtin.mergeLo
def EB(g:Nat):SM Unit:=(sortPriv% PySem.Builtin.setMinGallop) g
abbrev B7(a b out:Array Keyed)(ia ib:Nat):Array Keyed:=out++a.extract ia a.size++b.extract ib b.size
abbrev D6(a b out:Array Keyed)(ia ib:Nat):Array Keyed:=out++b.extract ib b.size++a.extract ia a.size
def rD(a b:Array Keyed):mlo a b=(do
 rule "list.sort.merge-lo"
 let mut out:Array Keyed:=#[<-elem' b 0]
 let mut ia:=0
 let mut ib:=1
 if ib == b.size then return B7 a b out ia ib
 if ia+1 == a.size then return D6 a b out ia ib
 let mut mg:=gallopOf (<-get)
 for _ in [0:a.size+b.size] do
  let mut ca:=0
  let mut cb:=0
  for _ in [0:a.size+b.size] do
   let some y <-lt' (<-elem' b ib) (<-elem' a ia) | return B7 a b out ia ib
   if y then
    out:=out.push (<-elem' b ib)
    ib:=ib+1
    cb:=cb+1
    ca:=0
    if ib == b.size then return B7 a b out ia ib
    if cb>=mg then break
   else
    out:=out.push (<-elem' a ia)
    ia:=ia+1
    ca:=ca+1
    cb:=0
    if ia+1 == a.size then return D6 a b out ia ib
    if ca>=mg then break
  rule "list.sort.gallop"
  mg:=mg+1
  for _ in [0:a.size+b.size] do
   if mg>1 then mg:=mg-1
   EB mg
   let some k <-DZ false (<-elem' b ib) a ia (a.size-ia) 0 | return B7 a b out ia ib
   ca:=k
   if k>0 then
    out:=out++a.extract ia (ia+k)
    ia:=ia+k
    if ia+1 == a.size then return D6 a b out ia ib
    if ia == a.size then return B7 a b out ia ib
   out:=out.push (<-elem' b ib)
   ib:=ib+1
   if ib == b.size then return B7 a b out ia ib
   let some k <-DZ true (<-elem' a ia) b ib (b.size-ib) 0 | return B7 a b out ia ib
   cb:=k
   if k>0 then
    out:=out++b.extract ib (ib+k)
    ib:=ib+k
    if ib == b.size then return B7 a b out ia ib
   out:=out.push (<-elem' a ia)
   ia:=ia+1
   if ia+1 == a.size then return D6 a b out ia ib
   if ca<7&&cb<7 then break
  mg:=mg+1
  EB mg
 unsupported "internal:list.sort.merge-bound"):=rfl
section
variable{L:KeyKind}{a b:Array Keyed}{out:List Keyed}{ia ib:Nat}
abbrev le(L:KeyKind)(x y:Keyed):Prop:=L.kle (ky L x) (ky L y)
def aL{c:Array Keyed}{i:Nat}(h:i<c.size):KK L c i=ky L c[i]:=by
 unfold KK ky;rw[Eg h]
structure Mg(L:KeyKind)(a b:Array Keyed)(out:List Keyed)(ia ib:Nat):Prop where
 perm:(out++(a.toList.drop ia++b.toList.drop ib)).Perm (a.toList++b.toList)
 up:out.Pairwise (le L)
 la:∀x∈out,∀i,ia<=i->i<a.size->L.kle (ky L x) (KK L a i)
 lb:∀x∈out,∀i,ib<=i->i<b.size->L.kle (ky L x) (KK L b i)
def fm{c:Array Keyed}{i:Nat}(h:i<c.size):c.toList.drop i=c[i]::c.toList.drop (i+1):=by
 rw[GO (by simpa using h)];simp
def gW{x:Keyed}(c:out.Pairwise (le L))(h:∀z∈out,le L z x):(out++[x]).Pairwise (le L):=
 Eh.mpr {c,List.pairwise_singleton _ _,λz d y c=>by rw[A8.mp c];exact h z d}
def Mg.pushA(m:Mg L a b out ia ib)(g:Up L a 0 a.size)(e:ia<a.size)(h:∀j,ib<=j->j<b.size->L.kle (KK L a ia) (KK L b j)):Mg L a b (out++[a[ia]]) (ia+1) ib:=by
 refine{?_,gW m.up λz j=>?_,λx c i f d=>?_,λx c i f d=>?_}
 ·have:=m.perm
  rw[fm e] at this;simpa [Cd] using this
 ·have:=m.la z j ia (Al _) e
  rwa [aL e] at this
 ·rcases Br.mp c with c | c
  ·exact m.la x c i 'o' d
  ·rw[A8.mp c,<-aL e]
   exact g ia i (AR _) 'o' d
 ·rcases Br.mp c with c | c
  ·exact m.lb x c i f d
  ·rw[A8.mp c,<-aL e]
   exact h i f d
def Mg.pushB(m:Mg L a b out ia ib)(g:Up L b 0 b.size)(e:ib<b.size)(h:∀j,ia<=j->j<a.size->L.kle (KK L b ib) (KK L a j)):Mg L a b (out++[b[ib]]) ia (ib+1):=by
 refine{?_,gW m.up λz j=>?_,λx c i f d=>?_,λx c i f d=>?_}
 ·have:=m.perm
  rw[fm e] at this;refine List.Perm.trans ?_ this;rw[Cd];exact List.Perm.append_left _ (show (b[ib]::(a.toList.drop ia++b.toList.drop (ib+1))).Perm _ from List.perm_middle.symm)
 ·have:=m.lb z j ib (Al _) e
  rwa [aL e] at this
 ·rcases Br.mp c with c | c
  ·exact m.la x c i f d
  ·rw[A8.mp c,<-aL e]
   exact h i f d
 ·rcases Br.mp c with c | c
  ·exact m.lb x c i 'o' d
  ·rw[A8.mp c,<-aL e]
   exact g ib i (AR _) 'o' d
def lf{c:Array Keyed}{i k:Nat}(h:i+k<c.size):(c.toList.drop i).take (k+1)=(c.toList.drop i).take k++[c[i+k]]:=by
 rw[Cu,List.getElem?_drop];simp[Eg h]
theorem Mg.takeA(m:Mg L a b out ia ib)(c:Up L a 0 a.size):∀k,ia+k<=a.size->(∀i,i<k->∀j,ib<=j->j<b.size->L.kle (KK L a (ia+i)) (KK L b j))->Mg L a b (out++(a.toList.drop ia).take k) (ia+k) ib
 | 0,_,_=>by simpa using m
 | k+1,e,h=>by
   have d:=Mg.takeA m c k 'o' λi e=>h i 'o'
   have:=d.pushA c 'o' (h k 'o');rw[lf 'o',<-Cd];exact this
theorem Mg.takeB(m:Mg L a b out ia ib)(c:Up L b 0 b.size):∀k,ib+k<=b.size->(∀i,i<k->∀j,ia<=j->j<a.size->L.kle (KK L b (ib+i)) (KK L a j))->Mg L a b (out++(b.toList.drop ib).take k) ia (ib+k)
 | 0,_,_=>by simpa using m
 | k+1,e,h=>by
   have d:=Mg.takeB m c k 'o' λi e=>h i 'o'
   have:=d.pushB c 'o' (h k 'o');rw[lf 'o',<-Cd];exact this
def D7(L:KeyKind)(a b:Array Keyed)(r:List Keyed):Prop:=r.Perm (a.toList++b.toList)/\r.Pairwise (le L)
def fo{c:Array Keyed}{i:Nat}(u:Up L c 0 c.size):(c.toList.drop i).Pairwise (le L):=by
 rw[List.pairwise_iff_getElem];intro p q d e f;rw[En,Dz] at d e;have:=u (i+p) (i+q) (AR _) 'o' 'o';rw[aL 'o',aL 'o'] at this;simpa [List.getElem_drop] using this
def dq{c:Array Keyed}{i:Nat}{x:Keyed}(h:x∈c.toList.drop i):∃j,i<=j/\j<c.size/\ky L x=KK L c j:=by
 obtain⟨j,d,e⟩:=List.getElem_of_mem h;rw[En,Dz] at d;refine{i+j,'o','o',?_};rw[aL 'o',<-e];simp[List.getElem_drop]
def Mg.doneB(m:Mg L a b out ia ib)(d:Up L a 0 a.size)(h:b.size<=ib):D7 L a b (out++a.toList.drop ia++b.toList.drop ib):=by
 have c:b.toList.drop ib=[]:=List.drop_eq_nil_of_le (by simpa using h);refine{by rw[Cd];exact m.perm,?_};rw[c,C8];refine Eh.mpr {m.up,fo d,λx g y c=>?_};obtain⟨j,f,d,e⟩:=dq (L:=L) c;show L.kle (ky L x) (ky L y);rw[e];exact m.la x g j f d
def Mg.doneA(m:Mg L a b out ia ib)(c:Up L b 0 b.size)(h:a.size<=ia):D7 L a b (out++a.toList.drop ia++b.toList.drop ib):=by
 have d:a.toList.drop ia=[]:=List.drop_eq_nil_of_le (by simpa using h);refine{by rw[Cd];exact m.perm,?_};rw[d,C8];refine Eh.mpr {m.up,fo c,λx g y d=>?_};obtain⟨j,f,c,e⟩:=dq (L:=L) d;show L.kle (ky L x) (ky L y);rw[e];exact m.lb x g j f c
def Mg.last(m:Mg L a b out ia ib)(c:Up L b 0 b.size)(h:ia+1=a.size)(g:∀j,j<b.size->L.kle (KK L b j) (KK L a ia)):D7 L a b (out++b.toList.drop ib++a.toList.drop ia):=by
 have d:a.toList.drop ia=[a[ia]]:=by rw[fm 'o',List.drop_eq_nil_of_le (by simp;omega)]
 refine{?_,?_}
 ·refine List.Perm.trans ?_ m.perm
  rw[Cd];exact List.Perm.append_left _ List.perm_append_comm
 ·rw[d]
  refine gW (Eh.mpr {m.up,fo c,λx i y h=>?_}) λz c=>?_
  ·obtain⟨j,f,d,e⟩:=dq (L:=L) h
   show L.kle (ky L x) (ky L y);rw[e];exact m.lb x i j f d
  ·show L.kle (ky L z) (ky L a[ia])
   rw[<-aL 'o'];rcases Br.mp c with c | c
   ·exact m.la z c ia (Al _) 'o'
   ·obtain⟨j,f,d,e⟩:=dq (L:=L) c
    rw[e];exact g j d
end
section
variable{prog:Program}{w:World}{A:Around}{E:Value->Shared->Prop}{s:Shared}{L:KeyKind}{knd:SortKind}{st:SortSt}{a b:Array Keyed}
structure Bv(st st':SortSt):Prop where
 arr:arrOf st'=arrOf st
 pend:pendingOf st'=pendingOf st
 fail:failedOf st'=failedOf st
 kind:kindOf st'=kindOf st
def Bv.refl:Bv st st:=⟨rfl,rfl,rfl,rfl⟩
def rE(g:Nat):EB g=modify λs=>SortSt.mk' (kindOf s) (arrOf s) (pendingOf s) g (failedOf s):=rfl
def fq{c:SortSt}{g:Nat}{Q:Unit->SortSt->Prop}(l:Bv c st)(h:∀d,Bv c d->Q () d):wpS 'r' A E s (EB g) Q st:=by
 rw[rE];exact bt (h _ ⟨l.arr,l.pend,l.fail,l.kind⟩)
def aN{c:Array Keyed}{i:Nat}(h:i<c.size){Q:Keyed->SortSt->Prop}(d:Q c[i] st):wpS 'r' A E s (elem' c i) Q st:=by
 rw[elem'_eq,Eg h];exact al d
def dr(C:Db prog w A E s L knd)(g:kindOf st=knd)(d:KeysOf L a)(l:KeysOf L b){i j:Nat}(e:i<a.size)(c:j<b.size){Q:Option Bool->SortSt->Prop}(h:Q (some (L.blt (KK L a i) (KK L b j))) st) :
 wpS 'r' A E s (lt' a[i] b[j]) Q st:=by
 obtain⟨x,f⟩:=d a[i] (Array.getElem_mem_toList e);obtain⟨y,d⟩:=l b[j] (Array.getElem_mem_toList c);refine C st _ _ x y Q g f d ?_;rw[aL e,aL c] at h;unfold ky at h;rw[f,d] at h;exact h
def lg(C:Db prog w A E s L knd)(d:KeysOf L a)(l:KeysOf L b)(e:Up L a 0 a.size){c n j:Nat}(f:c+n<=a.size)(g:j<b.size):Cut prog w A E s knd false b[j] a c n (λi=>!L.blt (KK L b j) (KK L a (c+i))) where
 far:=λi st Q m f h=>by
  unfold far;refine af (aN 'o' ?_);show wpS _ _ _ _ (lt' b[j] a[c+i] >>= λx=>pure (x.map (!·))) Q st;exact af (dr C f l d g 'o' (al h))
 mono:=λi k f d h=>by
  have h:L.blt (KK L b j) (KK L a (c+k))=false:=by simpa using h
  have:=KeyOrd.kle_trans (e (c+i) (c+k) (AR _) 'o' 'o') h;have:L.blt (KK L b j) (KK L a (c+i))=false:=this;simp[this]
def lh(C:Db prog w A E s L knd)(d:KeysOf L a)(l:KeysOf L b)(j:Up L b 0 b.size){c n i:Nat}(e:c+n<=b.size)(g:i<a.size):Cut prog w A E s knd true a[i] b c n (λk=>L.blt (KK L b (c+k)) (KK L a i)) where
 far:=λk st Q e f h=>by
  unfold far;refine af (aN 'o' ?_);show wpS _ _ _ _ (lt' b[c+k] a[i]) Q st;exact dr C f l d 'o' g h
 mono:=λp q e d h=>KeyOrd.klt_of_kle_of_klt (j (c+p) (c+q) (AR _) 'o' 'o') h
def bw{c:Array Keyed}{i j:Nat}(h:j<=c.size):(c.extract i j).toList=(c.toList.drop i).take (j-i):=by
 simp[Array.toList_extract,List.extract_eq_drop_take]
structure Cy(L:KeyKind)(a b:Array Keyed)(st:SortSt)(out:Array Keyed)(ia ib:Nat)(st':SortSt)(lo:Nat):Prop where
 m:Mg L a b out.toList ia ib
 ha:ia+1<a.size
 hb:ib<b.size
 like:Bv st st'
 far:lo<=ia+ib
def Cy.le{st:SortSt}{d:Array Keyed}{g f i c:Nat}{e:SortSt}(M:Cy L a b st d g f e i)(h:c<=i):Cy L a b st d g f e c:={M.m,M.ha,M.hb,M.like,Aw h M.far}
structure Two(prog:Program)(w:World)(A:Around)(E:Value->Shared->Prop)(s:Shared)(L:KeyKind)(knd:SortKind)(a b:Array Keyed)(st:SortSt):Prop where
 C:Db prog w A E s L knd
 ka:KeysOf L a
 kb:KeysOf L b
 ua:Up L a 0 a.size
 ub:Up L b 0 b.size
 hl:∀j,j<b.size->L.kle (KK L b j) (KK L a (a.size-1))
 hk:kindOf st=knd
abbrev Df(L:KeyKind)(a b:Array Keyed)(st:SortSt)(r:Array Keyed)(st':SortSt):Prop:=Bv st st'/\D7 L a b r.toList
def li(c:Array Keyed)(e d:Nat):(B7 a b c e d).toList=c.toList++a.toList.drop e++b.toList.drop d:=by
 unfold B7;rw[Ek,Ek,bw (Al _),bw (Al _),DR 'd',DR 'd']
def rF(c:Array Keyed)(e d:Nat):(D6 a b c e d).toList=c.toList++b.toList.drop d++a.toList.drop e:=by
 unfold D6;rw[Ek,Ek,bw (Al _),bw (Al _),DR 'd',DR 'd']
section
variable{out:Array Keyed}{ia ib lo:Nat}{st':SortSt}(T:Two prog w A E s L knd a b st)
include T
def Two.dB(m:Mg L a b out.toList ia ib)(h:b.size<=ib)(l:Bv st st'):Df L a b st (B7 a b out ia ib) st':={l,by rw[li];exact m.doneB T.ua h}
def Two.dA(m:Mg L a b out.toList ia ib)(h:a.size<=ia)(l:Bv st st'):Df L a b st (B7 a b out ia ib) st':={l,by rw[li];exact m.doneA T.ub h}
def Two.dL(m:Mg L a b out.toList ia ib)(h:ia+1=a.size)(l:Bv st st'):Df L a b st (D6 a b out ia ib) st':={l,by rw[rF];exact m.last T.ub h (by rw[show ia=a.size-1 by omega];exact T.hl)}
def Two.kind(l:Bv st st'):kindOf st'=knd:=l.kind.trans T.hk
end
abbrev S6:=Option (Array Keyed)×Array Keyed×Nat×Nat×Nat×Nat
abbrev S7:=Option (Array Keyed)×Array Keyed×Nat×Nat×Nat×Nat×Nat
def Hg(a b:Array Keyed)(mg:Nat)(c:S6):SM S6:=forIn [0:a.size+b.size] c λ_ r=>do
 let y <-elem' b r.2.2.2.1
 let x <-elem' a r.2.2.1
 let z <-lt' y x
 match z with
 | some t=>
   if t=true then do
    let y <-elem' b r.2.2.2.1
    if (r.2.2.2.1+1 == b.size)=true then pure (ForInStep.done (some (B7 a b (r.2.1.push y) r.2.2.1 (r.2.2.2.1+1)),r.2.1.push y,r.2.2.1,r.2.2.2.1+1,0,r.2.2.2.2.2+1))
    else if r.2.2.2.2.2+1>=mg then pure (ForInStep.done (none,r.2.1.push y,r.2.2.1,r.2.2.2.1+1,0,r.2.2.2.2.2+1)) else pure (ForInStep.yield (none,r.2.1.push y,r.2.2.1,r.2.2.2.1+1,0,r.2.2.2.2.2+1))
   else do
    let x <-elem' a r.2.2.1
    if (r.2.2.1+1+1 == a.size)=true then pure (ForInStep.done (some (D6 a b (r.2.1.push x) (r.2.2.1+1) r.2.2.2.1),r.2.1.push x,r.2.2.1+1,r.2.2.2.1,r.2.2.2.2.1+1,0))
    else if r.2.2.2.2.1+1>=mg then pure (ForInStep.done (none,r.2.1.push x,r.2.2.1+1,r.2.2.2.1,r.2.2.2.2.1+1,0)) else pure (ForInStep.yield (none,r.2.1.push x,r.2.2.1+1,r.2.2.2.1,r.2.2.2.2.1+1,0))
 | _=>pure (ForInStep.done (some (B7 a b r.2.1 r.2.2.1 r.2.2.2.1),r.2.1,r.2.2.1,r.2.2.2.1,r.2.2.2.2.1,r.2.2.2.2.2))
def rG(T:Two prog w A E s L knd a b st){d:Array Keyed}{f h q p i l:Nat}{c:SortSt}(M:Cy L a b st d f h c q){Q:S6->SortSt->Prop}(B:∀r z g,Df L a b st r g->Q (some r,z) g)(C:∀d f h i l g,Cy L a b st d f h g (q+1)->Q (none,d,f,h,i,l) g) :
 wpS 'r' A E s (Hg a b p (none,d,f,h,i,l)) Q c:=by
 unfold Hg;refine bb (I:=λy c g=>∃d f h i l,c=(none,d,f,h,i,l)/\Cy L a b st d f h g (q+y)) (λy c g e j u=>?_) (λc g u=>?_) ⟨d,f,h,i,l,rfl,M⟩
 ·obtain⟨d,f,h,i,l,e,M⟩:=u
  subst e;have F:=M.ha;have o:=M.hb;have c:=M.far;refine af (aN o (af (aN (show f<a.size by omega) (af (dr T.C (T.kind M.like) T.kb T.ka o 'o' ?_)))));show wpS _ _ _ _ (if L.blt (KK L b h) (KK L a f)=true then _ else _) _ _;cases x:L.blt (KK L b h) (KK L a f)
  ·rw[if_neg BQ]
   refine af (aN (show f<a.size by omega) ?_);have m:Mg L a b (d.push a[f]).toList (f+1) h:=by
    rw[Array.toList_push];exact M.m.pushA T.ua 'o' λj v r=>KeyOrd.kle_trans x (T.ub h j (AR _) v r)
   show wpS _ _ _ _ (if (f+1+1 == a.size)=true then _ else _) _ _;by_cases c:f+1+1=a.size
   ·rw[if_pos (beq_iff_eq.mpr c)]
    exact al (B _ _ _ (T.dL m c M.like))
   ·rw[if_neg (λz=>c (beq_iff_eq.mp z))]
    show wpS _ _ _ _ (if i+1>=p then _ else _) _ _;have M2:Cy L a b st (d.push a[f]) (f+1) h g (q+(y+1)):={m,'o',o,M.like,'o'};by_cases n:i+1>=p
    ·rw[if_pos n]
     exact al (C _ _ _ _ _ _ (M2.le 'o'))
    ·rw[if_neg n]
     exact al {_,_,_,_,_,rfl,M2}
  ·rw[if_pos rfl]
   refine af (aN o ?_);have m:Mg L a b (d.push b[h]).toList f (h+1):=by
    rw[Array.toList_push];exact M.m.pushB T.ub o λj v r=>KeyOrd.kle_trans (KeyOrd.kle_of_klt x) (T.ua f j (AR _) v r)
   show wpS _ _ _ _ (if (h+1 == b.size)=true then _ else _) _ _;by_cases c:h+1=b.size
   ·rw[if_pos (beq_iff_eq.mpr c)]
    exact al (B _ _ _ (T.dB m (show b.size<=h+1 by omega) M.like))
   ·rw[if_neg (λz=>c (beq_iff_eq.mp z))]
    show wpS _ _ _ _ (if l+1>=p then _ else _) _ _;have M2:Cy L a b st (d.push b[h]) f (h+1) g (q+(y+1)):={m,F,'o',M.like,'o'};by_cases n:l+1>=p
    ·rw[if_pos n]
     exact al (C _ _ _ _ _ _ (M2.le 'o'))
    ·rw[if_neg n]
     exact al {_,_,_,_,_,rfl,M2}
 ·obtain⟨d,f,h,i,l,e,M⟩:=u
  have:=M.ha;have:=M.hb;have:=M.far;omega
instance Gq(L:KeyKind)(a b:Array Keyed)(st:SortSt)(lo:Nat)(r:ForInStep S7)(st':SortSt):Prop:=
 match r with
 | .done c=>(∃q z,c=(some q,z)/\Df L a b st q st')\/∃out ia ib mg ca cb,c=(none,out,ia,ib,mg,ca,cb)/\Cy L a b st out ia ib st' lo
 | .yield c=>∃out ia ib mg ca cb,c=(none,out,ia,ib,mg,ca,cb)/\Cy L a b st out ia ib st' lo
instance G3(a b out:Array Keyed)(ia ib mg ca cb:Nat):SM (ForInStep S7):=do
 let x <-elem' a ia
 if (ia+1+1 == a.size)=true then pure (ForInStep.done ((some (D6 a b (out.push x) (ia+1) ib),out.push x,ia+1,ib,mg,ca,cb):S7))
 else if (decide (ca<7)&&decide (cb<7))=true then pure (ForInStep.done ((none,out.push x,ia+1,ib,mg,ca,cb):S7)) else pure (ForInStep.yield ((none,out.push x,ia+1,ib,mg,ca,cb):S7))
def lj(T:Two prog w A E s L knd a b st){d:Array Keyed}{c e h o i j:Nat}{f:SortSt}(m:Mg L a b d.toList c e)(g:c+1<a.size)(n:e<b.size)(l:Bv st f)(p:h<=c+e+1)(g:L.blt (KK L b e) (KK L a c)=false) :
 wpS 'r' A E s (G3 a b d c e o i j) (Gq L a b st h) f:=by
 unfold G3;refine af (aN (show c<a.size by omega) ?_);have i:Mg L a b (d.push a[c]).toList (c+1) e:=by
  rw[Array.toList_push];exact m.pushA T.ua 'o' λj o m=>KeyOrd.kle_trans g (T.ub e j (AR _) o m)
 by_cases g:c+1+1=a.size
 ·rw[if_pos (beq_iff_eq.mpr g)]
  exact al (.inl {_,_,rfl,T.dL i g l})
 ·rw[if_neg (λz=>g (beq_iff_eq.mp z))]
  have M2:Cy L a b st (d.push a[c]) (c+1) e f h:={i,'o',n,l,'o'};split
  ·exact al (.inr {_,_,_,_,_,_,rfl,M2})
  ·exact al {_,_,_,_,_,_,rfl,M2}
instance G2(a b out:Array Keyed)(ia ib mg ca cb:Nat):SM (ForInStep S7):=do
 let y <-elem' b ib
 if (ib+1 == b.size)=true then pure (ForInStep.done ((some (B7 a b (out.push y) ia (ib+1)),out.push y,ia,ib+1,mg,ca,cb):S7))
 else do
  let x <-elem' a ia
  let k <-DZ true x b (ib+1) (b.size-(ib+1)) 0
  match k with
  | some k=>
    if k>0 then
     if (ib+1+k == b.size)=true then pure (ForInStep.done ((some (B7 a b (out.push y++b.extract (ib+1) (ib+1+k)) ia (ib+1+k)),out.push y++b.extract (ib+1) (ib+1+k),ia,ib+1+k,mg,ca,k):S7))
     else G3 a b (out.push y++b.extract (ib+1) (ib+1+k)) ia (ib+1+k) mg ca k
    else G3 a b (out.push y) ia (ib+1) mg ca k
  | _=>pure (ForInStep.done ((some (B7 a b (out.push y) ia (ib+1)),out.push y,ia,ib+1,mg,ca,cb):S7))
def lk(T:Two prog w A E s L knd a b st){d:Array Keyed}{f c v q i n:Nat}{e:SortSt}(m:Mg L a b d.toList f c)(o:f+1<a.size)(g:c<b.size)(l:Bv st e)(h:v<=f+c+1)(p:∀j,f<=j->j<a.size->L.kle (KK L b c) (KK L a j)) :
 wpS 'r' A E s (G2 a b d f c q i n) (Gq L a b st v) e:=by
 unfold G2;refine af (aN g ?_);have n:Mg L a b (d.push b[c]).toList f (c+1):=by
  rw[Array.toList_push];exact m.pushB T.ub g p
 by_cases i:c+1=b.size
 ·rw[if_pos (beq_iff_eq.mpr i)]
  exact al (.inl {_,_,rfl,T.dB n (BX i.symm) l})
 rw[if_neg (λz=>i (beq_iff_eq.mp z))];have e:c+1+(b.size-(c+1))=b.size:=Ff g;have r:c+1<b.size:=Fh g i;have u:=Nat.sub_pos_of_lt r;have g:=Nat.lt_of_succ_lt o;refine af (aN g (af (dn (lh T.C T.ka T.kb T.ub (BX e) g) (T.kind l) u λk i m g=>?_)));have p:c+1+k<=b.size:=Aw (C5 i _) (BX e);show wpS _ _ _ _ (if k>0 then _ else _) _ _;by_cases e:k>0
 ·rw[if_pos e]
  have q:Mg L a b (d.push b[c]++b.extract (c+1) (c+1+k)).toList f (c+1+k):=by
   rw[Ek,bw p,GQ];exact n.takeB T.ub k p λi d j y x=>KeyOrd.kle_trans (KeyOrd.kle_of_klt (m i d)) (T.ua f j (AR _) y x)
  by_cases d:c+1+k=b.size
  ·rw[if_pos (beq_iff_eq.mpr d)]
   exact al (.inl {_,_,rfl,T.dB q (BX d.symm) l})
  ·rw[if_neg (λz=>d (beq_iff_eq.mp z))]
   have i:=Fh p d;exact lj T q o i l (Aw h (Em (C5 (Aw (Nat.le_succ c) (Ce _ k)) f))) (g k (Al _) (Nat.lt_sub_of_add_lt (by rw[CK];exact i)))
 ·rw[if_neg e]
  cases Nat.eq_zero_of_not_pos e;exact lj T n o r l (Nat.le_succ_of_le h) (g 0 (Al _) u)
instance G1(a b out:Array Keyed)(ia ib mg ca cb:Nat):SM (ForInStep S7):=do
 EB mg
 let y <-elem' b ib
 let k <-DZ false y a ia (a.size-ia) 0
 match k with
 | some k=>
   if k>0 then
    if (ia+k+1 == a.size)=true then pure (ForInStep.done ((some (D6 a b (out++a.extract ia (ia+k)) (ia+k) ib),out++a.extract ia (ia+k),ia+k,ib,mg,k,cb):S7))
    else if (ia+k == a.size)=true then pure (ForInStep.done ((some (B7 a b (out++a.extract ia (ia+k)) (ia+k) ib),out++a.extract ia (ia+k),ia+k,ib,mg,k,cb):S7))
    else G2 a b (out++a.extract ia (ia+k)) (ia+k) ib mg k cb
   else G2 a b out ia ib mg k cb
 | _=>pure (ForInStep.done ((some (B7 a b out ia ib),out,ia,ib,mg,ca,cb):S7))
def rH(T:Two prog w A E s L knd a b st){d:Array Keyed}{c f u i g h:Nat}{e:SortSt}(M:Cy L a b st d c f e u):wpS 'r' A E s (G1 a b d c f i g h) (Gq L a b st (u+1)) e:=by
 unfold G1;have r:=M.ha;have h:=M.hb;have e:=M.far;refine af (fq M.like λe l=>?_);have g:=Nat.lt_of_succ_lt r;have e:c+(a.size-c)=a.size:=Ff (Bw g);refine af (aN h (af (dn (lg T.C T.ka T.kb T.ua (BX e) h) (T.kind l) (Nat.sub_pos_of_lt g) λk j m i=>?_)));have p:c+k<=a.size:=Aw (C5 j _) (BX e);show wpS _ _ _ _ (if k>0 then _ else _) _ _;have q:∀j,c+k<=j->j<a.size->L.kle (KK L b f) (KK L a j):=λj g o=>by
  obtain⟨t,rfl⟩:=Nat.le.dest (Aw (Ce c k) g);have:=i t (Nat.le_of_add_le_add_left g) (Nat.lt_sub_of_add_lt (by rw[CK];exact o));exact KeyOrd.kle_of_klt (show L.blt (KK L b f) (KK L a (c+t))=true by simpa using this)
 by_cases e:k>0
 ·rw[if_pos e]
  have n:Mg L a b (d++a.extract c (c+k)).toList (c+k) f:=by
   rw[Ek,bw p,GQ];refine M.m.takeA T.ua k p λi d j g o=>?_
   have:=m i d;exact KeyOrd.kle_trans (show L.blt (KK L b f) (KK L a (c+i))=false by simpa using this) (T.ub f j (AR _) g o)
  by_cases f:c+k+1=a.size
  ·rw[if_pos (beq_iff_eq.mpr f)]
   exact al (.inl {_,_,rfl,T.dL n f l})
  rw[if_neg (λz=>f (beq_iff_eq.mp z))];by_cases d:c+k=a.size
  ·rw[if_pos (beq_iff_eq.mpr d)]
   exact al (.inl {_,_,rfl,T.dA n (BX d.symm) l})
  rw[if_neg (λz=>d (beq_iff_eq.mp z))];exact lk T n (Fh (Fh p d) f) h l 'o' q
 ·rw[if_neg e]
  cases Nat.eq_zero_of_not_pos e;exact lk T M.m r h l 'o' q
def Hh(a b:Array Keyed)(c:S7):SM S7:=forIn [0:a.size+b.size] c λ_ r=>
 if r.2.2.2.2.1>1 then G1 a b r.2.1 r.2.2.1 r.2.2.2.1 (r.2.2.2.2.1-1) r.2.2.2.2.2.1 r.2.2.2.2.2.2 else G1 a b r.2.1 r.2.2.1 r.2.2.2.1 r.2.2.2.2.1 r.2.2.2.2.2.1 r.2.2.2.2.2.2
abbrev S5:=Option (Array Keyed)×Array Keyed×Nat×Nat×Nat
def Io(a b:Array Keyed)(r:S5):SM (ForInStep S5):=do
 let c <-Hg a b r.2.2.2.2 (none,r.2.1,r.2.2.1,r.2.2.2.1,0,0)
 match c.1 with
 | some q=>pure (ForInStep.done (some q,c.2.1,c.2.2.1,c.2.2.2.1,r.2.2.2.2))
 | none=>do
   rule "list.sort.gallop"
   let d <-Hh a b (none,c.2.1,c.2.2.1,c.2.2.2.1,r.2.2.2.2+1,c.2.2.2.2.1,c.2.2.2.2.2)
   match d.1 with
   | some q=>pure (ForInStep.done (some q,d.2.1,d.2.2.1,d.2.2.2.1,d.2.2.2.2.1))
   | none=>do
     EB (d.2.2.2.2.1+1)
     pure (ForInStep.yield (none,d.2.1,d.2.2.1,d.2.2.2.1,d.2.2.2.2.1+1))
def Kw(c:S5):SM (Array Keyed):=match c.1 with
 | some q=>pure q
 | none=>unsupported "internal:list.sort.merge-bound"
open H in
def rJ(a b:Array Keyed):mlo a b=(do
 rule "list.sort.merge-lo"
 let y <-elem' b 0
 if (1 == b.size)=true then pure (B7 a b #[y] 0 1)
 else if (0+1 == a.size)=true then pure (D6 a b #[y] 0 1)
 else do
  let st <-get
  let c <-forIn [0:a.size+b.size] ((none,#[y],0,1,gallopOf st):S5) λ_ r=>Io a b r
  Kw c):=by
 rw[rD];refine congrArg _ (funext λ_=>congrArg _ (funext λy=>?_));dsimp only;refine congrArg _ (congrArg _ (congrArg _ (funext λst=>?_)));refine congr (congrArg bind (congrArg _ (funext λ_=>funext λr=>?_))) ?_
 ·unfold Io
  refine congr (congrArg bind ?_) (funext λc=>?_)
  ·unfold Hg;rfl
  ·obtain⟨f,g⟩:=c
   cases f with
   | some q=>rfl
   | none=>
     dsimp only;refine congrArg _ (funext λ_=>?_);refine congr (congrArg bind ?_) (funext λd=>?_)
     ·unfold Hh
      refine congrArg _ (funext λ_=>funext λr=>?_);unfold G1 G2 G3;by_cases e:r.2.2.2.2.1>1
      ·first | rewrite [if_pos e,if_pos e] | rewrite [if_pos e]
       refine congrArg _ (funext λ_=>congrArg _ (funext λ_=>congrArg _ (funext λk=>?_)));cases k with
       | none=>rfl
       | some k=>rfl
      ·first | rewrite [if_neg e,if_neg e] | rewrite [if_neg e]
       refine congrArg _ (funext λ_=>congrArg _ (funext λ_=>congrArg _ (funext λk=>?_)));cases k with
       | none=>rfl
       | some k=>rfl
     ·obtain⟨e,h⟩:=d
      cases e<;>rfl
 ·funext c
  obtain⟨f,g⟩:=c;cases f<;>rfl
def rK(T:Two prog w A E s L knd a b st){d:Array Keyed}{i h o g j l:Nat}{c:SortSt}(M:Cy L a b st d i h c o){Q:S7->SortSt->Prop}(v:∀q z f,Df L a b st q f->Q (some q,z) f)(u:∀d i h g j l f,Cy L a b st d i h f o->Q (none,d,i,h,g,j,l) f):wpS 'r' A E s (Hh a b (none,d,i,h,g,j,l)) Q c:=by
 unfold Hh;refine bb (I:=λy c f=>∃d i h g j l,c=(none,d,i,h,g,j,l)/\Cy L a b st d i h f (o+y)) (λy c f e m p=>?_) (λc f p=>?_) ⟨d,i,h,g,j,l,rfl,M⟩
 ·obtain⟨d,i,h,g,j,l,e,M⟩:=p
  subst e;have fin:∀(g:Nat),wpS 'r' A E s (G1 a b d i h g j l) (λr c=>match r with | .done n=>Q n c | .yield n=>∃d i h g j l,n=(none,d,i,h,g,j,l)/\Cy L a b st d i h c (o+(y+1))) f:=λg=>aZ (rH T M) λr c m=>by
   cases r with
   | done n=>
     rcases m with⟨q,z,e,f⟩ | ⟨d,i,h,g,j,l,e,M⟩
     ·subst e;exact v q z c f
     ·subst e;exact u _ _ _ _ _ _ c (M.le 'o')
   | yield n=>exact m
  show wpS _ _ _ _ (if g>1 then G1 a b d i h (g-1) j l else G1 a b d i h g j l) _ _;by_cases f:g>1
  ·rw[if_pos f];exact aZ (fin (g-1)) λr c m=>by cases r<;>exact m
  ·rw[if_neg f];exact aZ (fin g) λr c m=>by cases r<;>exact m
 ·obtain⟨d,i,h,g,j,l,e,M⟩:=p
  have:=M.ha;have:=M.hb;have:=M.far;omega
def rL(T:Two prog w A E s L knd a b st)(c:0<a.size)(e:0<b.size)(f:L.kle (KK L b 0) (KK L a 0)){Q:Array Keyed->SortSt->Prop}(h:∀r d,Bv st d->D7 L a b r.toList->Q r d):wpS 'r' A E s (mlo a b) Q st:=by
 rw[rJ];refine af (wpS_lift (bc {rfl,?_}));refine af (aN e ?_);have l:Mg L a b [b[0]] 0 1:=by
  have z:Mg L a b [] 0 0:={'d',List.Pairwise.nil,λx c=>absurd c 'd',λx c=>absurd c 'd'};exact z.pushB T.ub e λj _ c=>KeyOrd.kle_trans f (T.ua 0 j (Al _) (AR _) c)
 by_cases e:(1 == b.size)=true
 ·rw[if_pos e]
  have f:=T.dB (out:=#[b[0]]) l (by have:=beq_iff_eq.mp e;omega) Bv.refl;exact al (h _ _ f.1 f.2)
 rw[if_neg e];by_cases c:(0+1 == a.size)=true
 ·rw[if_pos c]
  have f:=T.dL (out:=#[b[0]]) l (by simpa using c) Bv.refl;exact al (h _ _ f.1 f.2)
 rw[if_neg c];have g:1<b.size:=by
  have:¬1=b.size:=by simpa using e
  omega
 have g:1<a.size:=by
  have:¬1=a.size:=by simpa using c
  omega
 refine af (wpS_get ?_);refine af (aZ (bb (I:=λx c d=>∃out i g m,c=(none,out,i,g,m)/\Cy L a b st out i g d (1+x)) (Q:=λc d=>∃r z,c=(some r,z)/\Df L a b st r d) (λx c d n e j=>?_) (λc d j=>?_) {#[b[0]],0,1,_,rfl,l,'o','o',Bv.refl,'o'}) λc d j=>?_)
 ·obtain⟨out,i,g,m,e,M⟩:=j
  subst e;unfold Io;refine af (rG T M (λr z c f=>?_) λout i g l n c M2=>?_)
  ·exact al {r,_,rfl,f}
  ·refine af (wpS_lift (bc {rfl,?_}))
   refine af (rK T M2 (λq z d f=>?_) λout i g m l n d c=>?_)
   ·exact al {q,_,rfl,f}
   ·exact af (fq c.like λd l=>al {out,i,g,_,rfl,c.m,c.ha,c.hb,l,c.far})
 ·obtain⟨out,i,g,m,e,M⟩:=j
  have:=M.ha;have:=M.hb;have:=M.far;omega
 ·obtain⟨r,z,e,f⟩:=j
  subst e;exact al (h _ _ f.1 f.2)
end
instance mhi:Array Keyed->Array Keyed->SM (Array Keyed):=sortPriv% PySem.Builtin.mergeHi
abbrev B8(a b out:Array Keyed)(na nb:Nat):Array Keyed:=a.extract 0 na++b.extract 0 nb++out.reverse
abbrev D8(a b out:Array Keyed)(na nb:Nat):Array Keyed:=b.extract 0 nb++a.extract 0 na++out.reverse
def rM(a b:Array Keyed):mhi a b=(do
 rule "list.sort.merge-hi"
 let mut na:=a.size-1
 let mut nb:=b.size
 let mut out:Array Keyed:=#[<-elem' a na]
 if na == 0 then return B8 a b out na nb
 if nb == 1 then return D8 a b out na nb
 let mut mg:=gallopOf (<-get)
 for _ in [0:a.size+b.size] do
  let mut ca:=0
  let mut cb:=0
  for _ in [0:a.size+b.size] do
   let some y <-lt' (<-elem' b (nb-1)) (<-elem' a (na-1)) | return B8 a b out na nb
   if y then
    na:=na-1
    out:=out.push (<-elem' a na)
    ca:=ca+1
    cb:=0
    if na == 0 then return B8 a b out na nb
    if ca>=mg then break
   else
    nb:=nb-1
    out:=out.push (<-elem' b nb)
    cb:=cb+1
    ca:=0
    if nb == 1 then return D8 a b out na nb
    if cb>=mg then break
  rule "list.sort.gallop"
  mg:=mg+1
  for _ in [0:a.size+b.size] do
   if mg>1 then mg:=mg-1
   EB mg
   let some p <-DZ false (<-elem' b (nb-1)) a 0 na (na-1) | return B8 a b out na nb
   ca:=na-p
   if na-p>0 then
    out:=out++(a.extract p na).reverse
    na:=p
    if na == 0 then return B8 a b out na nb
   nb:=nb-1
   out:=out.push (<-elem' b nb)
   if nb == 1 then return D8 a b out na nb
   let some p <-DZ true (<-elem' a (na-1)) b 0 nb (nb-1) | return B8 a b out na nb
   cb:=nb-p
   if nb-p>0 then
    out:=out++(b.extract p nb).reverse
    nb:=p
    if nb == 1 then return D8 a b out na nb
    if nb == 0 then return B8 a b out na nb
   na:=na-1
   out:=out.push (<-elem' a na)
   if na == 0 then return B8 a b out na nb
   if ca<7&&cb<7 then break
  mg:=mg+1
  EB mg
 unsupported "internal:list.sort.merge-bound"):=rfl
section
variable{L:KeyKind}{a b:Array Keyed}{t:List Keyed}{na nb:Nat}
structure Mh(L:KeyKind)(a b:Array Keyed)(t:List Keyed)(na nb:Nat):Prop where
 perm:((a.toList.take na++b.toList.take nb)++t).Perm (a.toList++b.toList)
 up:t.Pairwise (le L)
 la:∀x∈t,∀i,i<na->L.kle (KK L a i) (ky L x)
 lb:∀x∈t,∀i,i<nb->L.kle (KK L b i) (ky L x)
def gX{c:Array Keyed}{i:Nat}(h:i<c.size):c.toList.take (i+1)=c.toList.take i++[c[i]]:=by
 rw[Cu];simp[Eg h]
def Mh.pushA(m:Mh L a b t (na+1) nb)(f:Up L a 0 a.size)(d:na<a.size)(h:∀j,j<nb->L.kle (KK L b j) (KK L a na)):Mh L a b (a[na]::t) na nb:=by
 refine{?_,FE.mpr {λz g=>?_,m.up},λx c i e=>?_,λx c i e=>?_}
 ·have:=m.perm
  rw[gX d] at this;refine List.Perm.trans ?_ this;rw[Cd,Cd,Cd];exact List.Perm.append_left _ (List.perm_middle (l₁:=b.toList.take nb))
 ·have:=m.la z g na 'o'
  rwa [aL d] at this
 ·rcases AL.mp c with c | c
  ·rw[c,<-aL d]
   exact f i na (AR _) 'o' d
  ·exact m.la x c i 'o'
 ·rcases AL.mp c with c | c
  ·rw[c,<-aL d]
   exact h i e
  ·exact m.lb x c i e
def Mh.pushB(m:Mh L a b t na (nb+1))(f:Up L b 0 b.size)(d:nb<b.size)(h:∀j,j<na->L.kle (KK L a j) (KK L b nb)):Mh L a b (b[nb]::t) na nb:=by
 refine{?_,FE.mpr {λz g=>?_,m.up},λx c i e=>?_,λx c i e=>?_}
 ·have:=m.perm
  rw[gX d] at this;simpa [Cd] using this
 ·have:=m.lb z g nb 'o'
  rwa [aL d] at this
 ·rcases AL.mp c with c | c
  ·rw[c,<-aL d]
   exact h i e
  ·exact m.la x c i e
 ·rcases AL.mp c with c | c
  ·rw[c,<-aL d]
   exact f i nb (AR _) 'o' d
  ·exact m.lb x c i 'o'
def lm{c:Array Keyed}{i k:Nat}(h:i<c.size):(c.toList.drop i).take (k+1)=c[i]::(c.toList.drop (i+1)).take k:=by
 rw[fm h,List.take_succ_cons]
theorem Mh.takeA(c:Up L a 0 a.size):∀(k p:Nat) (t:List Keyed),Mh L a b t (p+k) nb->p+k<=a.size->(∀i,p<=i->i<p+k->∀j,j<nb->L.kle (KK L b j) (KK L a i))->Mh L a b ((a.toList.drop p).take k++t) p nb
 | 0,p,t,m,_,_=>by simpa using m
 | k+1,p,t,m,e,h=>by
   have d:=Mh.takeA c k (p+1) t (by rw[show p+1+k=p+(k+1) by omega];exact m) 'o' λi f e=>h i 'o' 'o'
   have:=d.pushA c 'o' (h p (Al _) 'o');rw[lm 'o'];exact this
theorem Mh.takeB(c:Up L b 0 b.size):∀(k p:Nat) (t:List Keyed),Mh L a b t na (p+k)->p+k<=b.size->(∀i,p<=i->i<p+k->∀j,j<na->L.kle (KK L a j) (KK L b i))->Mh L a b ((b.toList.drop p).take k++t) na p
 | 0,p,t,m,_,_=>by simpa using m
 | k+1,p,t,m,e,h=>by
   have d:=Mh.takeB c k (p+1) t (by rw[show p+1+k=p+(k+1) by omega];exact m) 'o' λi f e=>h i 'o' 'o'
   have:=d.pushB c 'o' (h p (Al _) 'o');rw[lm 'o'];exact this
def gY{c:Array Keyed}{i:Nat}(u:Up L c 0 c.size):(c.toList.take i).Pairwise (le L):=(fo (i:=0) u).sublist (List.take_sublist _ _)
def d7{c:Array Keyed}{i:Nat}{x:Keyed}(h:x∈c.toList.take i):∃j,j<i/\j<c.size/\ky L x=KK L c j:=by
 obtain⟨j,d,e⟩:=List.getElem_of_mem h;rw[B9,Dz] at d;refine{j,'o','o',?_};rw[aL 'o',<-e];simp[List.getElem_take]
def Mh.doneB(m:Mh L a b t na 0)(d:Up L a 0 a.size):D7 L a b (a.toList.take na++b.toList.take 0++t):=by
 refine{m.perm,?_};rw[List.take_zero,C8];refine Eh.mpr {gY d,m.up,λx f y c=>?_};obtain⟨j,d,g,e⟩:=d7 (L:=L) f;show L.kle (ky L x) (ky L y);rw[e];exact m.la y c j d
def Mh.doneA(m:Mh L a b t 0 nb)(c:Up L b 0 b.size):D7 L a b (a.toList.take 0++b.toList.take nb++t):=by
 refine{m.perm,?_};rw[List.take_zero,Fm];refine Eh.mpr {gY c,m.up,λx f y d=>?_};obtain⟨j,c,g,e⟩:=d7 (L:=L) f;show L.kle (ky L x) (ky L y);rw[e];exact m.lb y d j c
def Mh.first(m:Mh L a b t na 1)(f:Up L a 0 a.size)(d:0<b.size)(g:∀j,j<a.size->L.kle (KK L b 0) (KK L a j)):D7 L a b (b.toList.take 1++a.toList.take na++t):=by
 have e:b.toList.take 1=[b[0]]:=by rw[gX d];simp
 refine{?_,?_}
 ·refine List.Perm.trans (List.Perm.append_right _ List.perm_append_comm) m.perm
 ·rw[e,Cd,List.singleton_append]
  refine FE.mpr {λy c=>?_,Eh.mpr {gY f,m.up,λx h y c=>?_}}
  ·show L.kle (ky L b[0]) (ky L y)
   rw[<-aL d];rcases Br.mp c with c | c
   ·obtain⟨j,f,d,e⟩:=d7 (L:=L) c
    rw[e];exact g j d
   ·exact m.lb y c 0 'o'
  ·obtain⟨j,f,d,e⟩:=d7 (L:=L) h
   show L.kle (ky L x) (ky L y);rw[e];exact m.la y c j f
end
section
variable{prog:Program}{w:World}{A:Around}{E:Value->Shared->Prop}{s:Shared}{L:KeyKind}{knd:SortKind}{st:SortSt}{a b:Array Keyed}
structure Cz(L:KeyKind)(a b:Array Keyed)(st:SortSt)(na nb:Nat)(out:Array Keyed)(st':SortSt)(lo:Nat):Prop where
 m:Mh L a b out.toList.reverse na nb
 ha:0<na
 hb:1<nb
 la:na<=a.size
 lb:nb<=b.size
 like:Bv st st'
 far:na+nb+lo<=a.size+b.size
def Cz.le{st:SortSt}{c:Array Keyed}{f nb g e:Nat}{d:SortSt}(M:Cz L a b st f nb c d g)(h:e<=g):Cz L a b st f nb c d e:={M.m,M.ha,M.hb,M.la,M.lb,M.like,by have:=M.far;omega}
def lp(c:Array Keyed){d nb:Nat}(f:d<=a.size)(e:nb<=b.size):(B8 a b c d nb).toList=a.toList.take d++b.toList.take nb++c.toList.reverse:=by
 unfold B8;rw[Ek,Ek,bw f,bw e,Array.toList_reverse];simp
def rN(c:Array Keyed){d nb:Nat}(f:d<=a.size)(e:nb<=b.size):(D8 a b c d nb).toList=b.toList.take nb++a.toList.take d++c.toList.reverse:=by
 unfold D8;rw[Ek,Ek,bw f,bw e,Array.toList_reverse];simp
structure Tw(prog:Program)(w:World)(A:Around)(E:Value->Shared->Prop)(s:Shared)(L:KeyKind)(knd:SortKind)(a b:Array Keyed)(st:SortSt):Prop extends Two prog w A E s L knd a b st where
 hf:∀j,j<a.size->L.kle (KK L b 0) (KK L a j)
section
variable{out:Array Keyed}{na nb lo:Nat}{st':SortSt}(T:Tw prog w A E s L knd a b st)
include T
def Tw.dB(m:Mh L a b out.toList.reverse na nb)(c:na<=a.size)(h:nb=0)(l:Bv st st'):Df L a b st (B8 a b out na nb) st':={l,by subst h;rw[lp _ c (AR _)];exact m.doneB T.ua}
def Tw.dA(m:Mh L a b out.toList.reverse na nb)(c:nb<=b.size)(h:na=0)(l:Bv st st'):Df L a b st (B8 a b out na nb) st':={l,by subst h;rw[lp _ (AR _) c];exact m.doneA T.ub}
def Tw.dF(m:Mh L a b out.toList.reverse na nb)(d:na<=a.size)(c:nb<=b.size)(h:nb=1)(l:Bv st st'):Df L a b st (D8 a b out na nb) st':={l,by subst h;rw[rN _ d c];exact m.first T.ua c T.hf}
end
def lq(c:Array Keyed)(x:Keyed):(c.push x).toList.reverse=x::c.toList.reverse:=by simp
def lr(c:Array Keyed){d:Array Keyed}{p q:Nat}(h:q<=d.size):(c++(d.extract p q).reverse).toList.reverse=(d.toList.drop p).take (q-p)++c.toList.reverse:=by
 rw[Ek,Array.toList_reverse,bw h,List.reverse_append,List.reverse_reverse]
section
variable{out:Array Keyed}{na nb lo:Nat}{st':SortSt}(T:Tw prog w A E s L knd a b st)
include T
def Tw.putA(m:Mh L a b out.toList.reverse na nb)(d:0<na)(c:na<=a.size)(h:∀j,j<nb->L.kle (KK L b j) (KK L a (na-1))):Mh L a b (out.push (a[na-1]'('o'))).toList.reverse (na-1) nb:=by
 obtain⟨n,rfl⟩:∃n,na=n+1:={na-1,'o'};rw[lq];exact m.pushA T.ua (show n<a.size by omega) h
def Tw.putB(m:Mh L a b out.toList.reverse na nb)(c:0<nb)(d:nb<=b.size)(h:∀j,j<na->L.kle (KK L a j) (KK L b (nb-1))):Mh L a b (out.push (b[nb-1]'('o'))).toList.reverse na (nb-1):=by
 obtain⟨n,rfl⟩:∃n,nb=n+1:={nb-1,'o'};rw[lq];exact m.pushB T.ub (show n<b.size by omega) h
def Tw.manyA(m:Mh L a b out.toList.reverse na nb){p:Nat}(d:p<=na)(c:na<=a.size)(h:∀i,p<=i->i<na->∀j,j<nb->L.kle (KK L b j) (KK L a i)):Mh L a b (out++(a.extract p na).reverse).toList.reverse p nb:=by
 rw[lr out c];exact Mh.takeA T.ua (na-p) p _ (by rw[show p+(na-p)=na by omega];exact m) 'o' λi c d=>h i c 'o'
def Tw.manyB(m:Mh L a b out.toList.reverse na nb){p:Nat}(d:p<=nb)(c:nb<=b.size)(h:∀i,p<=i->i<nb->∀j,j<na->L.kle (KK L a j) (KK L b i)):Mh L a b (out++(b.extract p nb).reverse).toList.reverse na p:=by
 rw[lr out c];exact Mh.takeB T.ub (nb-p) p _ (by rw[show p+(nb-p)=nb by omega];exact m) 'o' λi c d=>h i c 'o'
end
abbrev H6:=Option (Array Keyed)×Nat×Nat×Array Keyed×Nat×Nat
abbrev H7:=Option (Array Keyed)×Nat×Nat×Array Keyed×Nat×Nat×Nat
def Hi(a b:Array Keyed)(mg:Nat)(c:H6):SM H6:=forIn [0:a.size+b.size] c λ_ r=>do
 let y <-elem' b (r.2.2.1-1)
 let x <-elem' a (r.2.1-1)
 let z <-lt' y x
 match z with
 | some t=>
   if t=true then do
    let x <-elem' a (r.2.1-1)
    if (r.2.1-1 == 0)=true then pure (ForInStep.done (some (B8 a b (r.2.2.2.1.push x) (r.2.1-1) r.2.2.1),r.2.1-1,r.2.2.1,r.2.2.2.1.push x,r.2.2.2.2.1+1,0))
    else if r.2.2.2.2.1+1>=mg then pure (ForInStep.done (none,r.2.1-1,r.2.2.1,r.2.2.2.1.push x,r.2.2.2.2.1+1,0)) else pure (ForInStep.yield (none,r.2.1-1,r.2.2.1,r.2.2.2.1.push x,r.2.2.2.2.1+1,0))
   else do
    let y <-elem' b (r.2.2.1-1)
    if (r.2.2.1-1 == 1)=true then pure (ForInStep.done (some (D8 a b (r.2.2.2.1.push y) r.2.1 (r.2.2.1-1)),r.2.1,r.2.2.1-1,r.2.2.2.1.push y,0,r.2.2.2.2.2+1))
    else if r.2.2.2.2.2+1>=mg then pure (ForInStep.done (none,r.2.1,r.2.2.1-1,r.2.2.2.1.push y,0,r.2.2.2.2.2+1)) else pure (ForInStep.yield (none,r.2.1,r.2.2.1-1,r.2.2.2.1.push y,0,r.2.2.2.2.2+1))
 | _=>pure (ForInStep.done (some (B8 a b r.2.2.2.1 r.2.1 r.2.2.1),r.2.1,r.2.2.1,r.2.2.2.1,r.2.2.2.2.1,r.2.2.2.2.2))
def rO(T:Tw prog w A E s L knd a b st){d:Array Keyed}{g nb o n h i:Nat}{c:SortSt}(M:Cz L a b st g nb d c o){Q:H6->SortSt->Prop}(v:∀r z f,Df L a b st r f->Q (some r,z) f)(x:∀d g nb h i f,Cz L a b st g nb d f (o+1)->Q (none,g,nb,d,h,i) f) :
 wpS 'r' A E s (Hi a b n (none,g,nb,d,h,i)) Q c:=by
 unfold Hi;refine bb (I:=λy c f=>∃d g nb h i,c=(none,g,nb,d,h,i)/\Cz L a b st g nb d f (o+y)) (λy c f e j q=>?_) (λc f q=>?_) ⟨d,g,nb,h,i,rfl,M⟩
 ·obtain⟨d,g,nb,h,i,e,M⟩:=q
  subst e;have B:=M.ha;have C:=M.hb;have c:=M.far;have r:=M.la;have p:=M.lb;refine af (aN (show nb-1<b.size by omega) (af (aN (show g-1<a.size by omega) (af (dr T.C (T.kind M.like) T.kb T.ka 'o' 'o' ?_)))));show wpS _ _ _ _ (if L.blt (KK L b (nb-1)) (KK L a (g-1))=true then _ else _) _ _;cases u:L.blt (KK L b (nb-1)) (KK L a (g-1))
  ·rw[if_neg BQ]
   refine af (aN (show nb-1<b.size by omega) ?_);have l:=T.putB M.m 'o' p λj F=>KeyOrd.kle_trans (T.ua j (g-1) (AR _) 'o' 'o') u
   show wpS _ _ _ _ (if (nb-1 == 1)=true then _ else _) _ _;by_cases c:nb-1=1
   ·rw[if_pos (beq_iff_eq.mpr c)]
    exact al (v _ _ _ (T.dF l r (show nb-1<=b.size by omega) c M.like))
   ·rw[if_neg (λz=>c (beq_iff_eq.mp z))]
    show wpS _ _ _ _ (if i+1>=n then _ else _) _ _;have M2:Cz L a b st g (nb-1) (d.push b[nb-1]) f (o+(y+1)):={l,B,'o',r,'o',M.like,'o'};by_cases m:i+1>=n
    ·rw[if_pos m]
     exact al (x _ _ _ _ _ _ (M2.le 'o'))
    ·rw[if_neg m]
     exact al {_,_,_,_,_,rfl,M2}
  ·rw[if_pos rfl]
   refine af (aN (show g-1<a.size by omega) ?_);have l:=T.putA M.m B r λj F=>KeyOrd.kle_trans (T.ub j (nb-1) (AR _) 'o' 'o') (KeyOrd.kle_of_klt u)
   show wpS _ _ _ _ (if (g-1 == 0)=true then _ else _) _ _;by_cases c:g-1=0
   ·rw[if_pos (beq_iff_eq.mpr c)]
    exact al (v _ _ _ (T.dA l p c M.like))
   ·rw[if_neg (λz=>c (beq_iff_eq.mp z))]
    show wpS _ _ _ _ (if h+1>=n then _ else _) _ _;have M2:Cz L a b st (g-1) nb (d.push a[g-1]) f (o+(y+1)):={l,'o',C,'o',p,M.like,'o'};by_cases m:h+1>=n
    ·rw[if_pos m]
     exact al (x _ _ _ _ _ _ (M2.le 'o'))
    ·rw[if_neg m]
     exact al {_,_,_,_,_,rfl,M2}
 ·obtain⟨d,g,nb,h,i,e,M⟩:=q
  have:=M.ha;have:=M.hb;have:=M.far;omega
instance Hq(L:KeyKind)(a b:Array Keyed)(st:SortSt)(lo:Nat)(r:ForInStep H7)(st':SortSt):Prop:=
 match r with
 | .done c=>(∃q z,c=(some q,z)/\Df L a b st q st')\/∃na nb out mg ca cb,c=(none,na,nb,out,mg,ca,cb)/\Cz L a b st na nb out st' lo
 | .yield c=>∃na nb out mg ca cb,c=(none,na,nb,out,mg,ca,cb)/\Cz L a b st na nb out st' lo
instance H3(a b:Array Keyed)(na nb:Nat)(out:Array Keyed)(mg ca cb:Nat):SM (ForInStep H7):=do
 let x <-elem' a (na-1)
 if (na-1 == 0)=true then pure (ForInStep.done ((some (B8 a b (out.push x) (na-1) nb),na-1,nb,out.push x,mg,ca,cb):H7))
 else if (decide (ca<7)&&decide (cb<7))=true then pure (ForInStep.done ((none,na-1,nb,out.push x,mg,ca,cb):H7)) else pure (ForInStep.yield ((none,na-1,nb,out.push x,mg,ca,cb):H7))
def lu(T:Tw prog w A E s L knd a b st){d:Array Keyed}{c nb g r f h:Nat}{e:SortSt}(m:Mh L a b d.toList.reverse c nb)(q:0<c)(n:1<nb)(p:c<=a.size)(i:nb<=b.size)(l:Bv st e)(j:c+nb+g<=a.size+b.size+1)(o:∀j,j<nb->L.kle (KK L b j) (KK L a (c-1))) :
 wpS 'r' A E s (H3 a b c nb d r f h) (Hq L a b st g) e:=by
 unfold H3;refine af (aN (show c-1<a.size by omega) ?_);have h:=T.putA m q p o;by_cases f:c-1=0
 ·rw[if_pos (beq_iff_eq.mpr f)]
  exact al (.inl {_,_,rfl,T.dA h i f l})
 ·rw[if_neg (λz=>f (beq_iff_eq.mp z))]
  have M2:Cz L a b st (c-1) nb (d.push a[c-1]) e g:={h,'o',n,'o',i,l,'o'};split
  ·exact al (.inr {_,_,_,_,_,_,rfl,M2})
  ·exact al {_,_,_,_,_,_,rfl,M2}
instance H2(a b:Array Keyed)(na nb:Nat)(out:Array Keyed)(mg ca cb:Nat):SM (ForInStep H7):=do
 let y <-elem' b (nb-1)
 if (nb-1 == 1)=true then pure (ForInStep.done ((some (D8 a b (out.push y) na (nb-1)),na,nb-1,out.push y,mg,ca,cb):H7))
 else do
  let x <-elem' a (na-1)
  let p <-DZ true x b 0 (nb-1) (nb-1-1)
  match p with
  | some p=>
    if nb-1-p>0 then
     if (p == 1)=true then pure (ForInStep.done ((some (D8 a b (out.push y++(b.extract p (nb-1)).reverse) na p),na,p,out.push y++(b.extract p (nb-1)).reverse,mg,ca,nb-1-p):H7))
     else if (p == 0)=true then pure (ForInStep.done ((some (B8 a b (out.push y++(b.extract p (nb-1)).reverse) na p),na,p,out.push y++(b.extract p (nb-1)).reverse,mg,ca,nb-1-p):H7))
     else H3 a b na p (out.push y++(b.extract p (nb-1)).reverse) mg ca (nb-1-p)
    else H3 a b na (nb-1) (out.push y) mg ca (nb-1-p)
  | _=>pure (ForInStep.done ((some (B8 a b (out.push y) na (nb-1)),na,nb-1,out.push y,mg,ca,cb):H7))
def lv(T:Tw prog w A E s L knd a b st){d:Array Keyed}{c nb v q o p:Nat}{e:SortSt}(m:Mh L a b d.toList.reverse c nb)(C:0<c)(h:1<nb)(n:c<=a.size)(f:nb<=b.size)(l:Bv st e)(g:c+nb+v<=a.size+b.size+1)(i:∀j,j<c->L.kle (KK L a j) (KK L b (nb-1))) :
 wpS 'r' A E s (H2 a b c nb d q o p) (Hq L a b st v) e:=by
 obtain⟨q,rfl⟩:∃q,nb=q+1:={nb-1,(Nat.sub_add_cancel (Bw h)).symm};have G:0<q:=Nat.lt_of_succ_lt_succ h;have o:q<=b.size:=Bw f;have e:c-1<a.size:=A3 (Nat.sub_lt C Nat.one_pos) n;have u:∀{p},p<=q->c+p+v<=a.size+b.size+1:=λh=>Aw (F7 (C5 (Nat.le_succ_of_le h) c) v) g
 unfold H2;simp only[Nat.add_sub_cancel] at i ⊢;refine af (aN f ?_);have x:Mh L a b (d.push b[q]).toList.reverse c q:=T.putB m (Fq q) f i;by_cases g:q=1
 ·rw[if_pos (beq_iff_eq.mpr g)]
  exact al (.inl {_,_,rfl,T.dF x n o g l})
 rw[if_neg (λz=>g (beq_iff_eq.mp z))];refine af (aN e (af (dn (lh T.C T.ka T.kb T.ub (by rw[Aq];exact o) e) (T.kind l) (Nat.sub_lt G Nat.one_pos) λp B f m=>?_)));show wpS _ _ _ _ (if q-p>0 then _ else _) _ _;simp only[Aq] at f m;have r:∀j,j<p->L.kle (KK L b j) (KK L a (c-1)):=λj F=>KeyOrd.kle_of_klt (f j F)
 by_cases d:q-p>0
 ·rw[if_pos d]
  have I:=Aw B o;have y:=T.manyB x B o λi g f j h=>KeyOrd.kle_trans (T.ua j (c-1) (AR _) (Nat.le_sub_one_of_lt h) e) (m i g f)
  by_cases f:p=1
  ·rw[if_pos (beq_iff_eq.mpr f)]
   exact al (.inl {_,_,rfl,T.dF y n I f l})
  rw[if_neg (λz=>f (beq_iff_eq.mp z))];by_cases h:p=0
  ·rw[if_pos (beq_iff_eq.mpr h)]
   exact al (.inl {_,_,rfl,T.dB y n h l})
  rw[if_neg (λz=>h (beq_iff_eq.mp z))];exact lu T y C (Fh (Nat.pos_of_ne_zero h) (Ne.symm f)) n I l (u B) r
 ·rw[if_neg d]
  exact lu T x C (Fh G (Ne.symm g)) n o l (u (Al q)) (λj F=>r j (A3 F (Nat.le_of_sub_eq_zero (Nat.eq_zero_of_not_pos d))))
instance H1(a b:Array Keyed)(na nb:Nat)(out:Array Keyed)(mg ca cb:Nat):SM (ForInStep H7):=do
 EB mg
 let y <-elem' b (nb-1)
 let p <-DZ false y a 0 na (na-1)
 match p with
 | some p=>
   if na-p>0 then
    if (p == 0)=true then pure (ForInStep.done ((some (B8 a b (out++(a.extract p na).reverse) p nb),p,nb,out++(a.extract p na).reverse,mg,na-p,cb):H7))
    else H2 a b p nb (out++(a.extract p na).reverse) mg (na-p) cb
   else H2 a b na nb out mg (na-p) cb
 | _=>pure (ForInStep.done ((some (B8 a b out na nb),na,nb,out,mg,ca,cb):H7))
def rP(T:Tw prog w A E s L knd a b st){c:Array Keyed}{e nb o h f g:Nat}{d:SortSt}(M:Cz L a b st e nb c d o):wpS 'r' A E s (H1 a b e nb c h f g) (Hq L a b st (o+1)) d:=by
 unfold H1;have u:=M.ha;have h:=M.hb;have c:=M.far;have n:=M.la;have f:=M.lb;refine af (fq M.like λc l=>?_);refine af (aN (show nb-1<b.size by omega) (af (dn (lg T.C T.ka T.kb T.ua 'o' 'o') (T.kind l) 'o' λp r d c=>?_)));show wpS _ _ _ _ (if e-p>0 then _ else _) _ _;simp only[Aq] at d c;have m:∀j,j<p->L.kle (KK L a j) (KK L b (nb-1)):=λj g=>by
  have:=d j g;exact(show L.blt (KK L b (nb-1)) (KK L a j)=false by simpa using this)
 by_cases d:e-p>0
 ·rw[if_pos d]
  have g:=T.manyA M.m r n λi e q j v=>by
   have:=c i e q;exact KeyOrd.kle_trans (T.ub j (nb-1) (AR _) 'o' 'o') (KeyOrd.kle_of_klt (show L.blt (KK L b (nb-1)) (KK L a i)=true by simpa using this))
  by_cases e:p=0
  ·rw[if_pos (beq_iff_eq.mpr e)]
   exact al (.inl {_,_,rfl,T.dA g f e l})
  rw[if_neg (λz=>e (beq_iff_eq.mp z))];exact lv T g 'o' h 'o' f l 'o' m
 ·rw[if_neg d]
  exact lv T M.m u h n f l 'o' (λj c=>m j 'o')
def Hj(a b:Array Keyed)(c:H7):SM H7:=forIn [0:a.size+b.size] c λ_ r=>
 if r.2.2.2.2.1>1 then H1 a b r.2.1 r.2.2.1 r.2.2.2.1 (r.2.2.2.2.1-1) r.2.2.2.2.2.1 r.2.2.2.2.2.2 else H1 a b r.2.1 r.2.2.1 r.2.2.2.1 r.2.2.2.2.1 r.2.2.2.2.2.1 r.2.2.2.2.2.2
abbrev H5:=Option (Array Keyed)×Nat×Nat×Array Keyed×Nat
def Ip(a b:Array Keyed)(r:H5):SM (ForInStep H5):=do
 let c <-Hi a b r.2.2.2.2 (none,r.2.1,r.2.2.1,r.2.2.2.1,0,0)
 match c.1 with
 | some q=>pure (ForInStep.done (some q,c.2.1,c.2.2.1,c.2.2.2.1,r.2.2.2.2))
 | none=>do
   rule "list.sort.gallop"
   let d <-Hj a b (none,c.2.1,c.2.2.1,c.2.2.2.1,r.2.2.2.2+1,c.2.2.2.2.1,c.2.2.2.2.2)
   match d.1 with
   | some q=>pure (ForInStep.done (some q,d.2.1,d.2.2.1,d.2.2.2.1,d.2.2.2.2.1))
   | none=>do
     EB (d.2.2.2.2.1+1)
     pure (ForInStep.yield (none,d.2.1,d.2.2.1,d.2.2.2.1,d.2.2.2.2.1+1))
def Kx(c:H5):SM (Array Keyed):=match c.1 with
 | some q=>pure q
 | none=>unsupported "internal:list.sort.merge-bound"
open H in
def rQ(a b:Array Keyed):mhi a b=(do
 rule "list.sort.merge-hi"
 let x <-elem' a (a.size-1)
 if (a.size-1 == 0)=true then pure (B8 a b #[x] (a.size-1) b.size)
 else if (b.size == 1)=true then pure (D8 a b #[x] (a.size-1) b.size)
 else do
  let st <-get
  let c <-forIn [0:a.size+b.size] ((none,a.size-1,b.size,#[x],gallopOf st):H5) λ_ r=>Ip a b r
  Kx c):=by
 rw[rM];refine congrArg _ (funext λ_=>?_);dsimp only;refine congrArg _ (funext λy=>?_);refine congrArg _ (congrArg _ (congrArg _ (funext λst=>?_)));refine congr (congrArg bind (congrArg _ (funext λ_=>funext λr=>?_))) ?_
 ·unfold Ip
  refine congr (congrArg bind ?_) (funext λc=>?_)
  ·unfold Hi;rfl
  ·obtain⟨f,g⟩:=c
   cases f with
   | some q=>rfl
   | none=>
     dsimp only;refine congrArg _ (funext λ_=>?_);refine congr (congrArg bind ?_) (funext λd=>?_)
     ·unfold Hj
      refine congrArg _ (funext λ_=>funext λr=>?_);unfold H1 H2 H3;by_cases e:r.2.2.2.2.1>1
      ·first | rewrite [if_pos e,if_pos e] | rewrite [if_pos e]
       refine congrArg _ (funext λ_=>congrArg _ (funext λ_=>congrArg _ (funext λk=>?_)));cases k with
       | none=>rfl
       | some k=>rfl
      ·first | rewrite [if_neg e,if_neg e] | rewrite [if_neg e]
       refine congrArg _ (funext λ_=>congrArg _ (funext λ_=>congrArg _ (funext λk=>?_)));cases k with
       | none=>rfl
       | some k=>rfl
     ·obtain⟨e,h⟩:=d
      cases e<;>rfl
 ·funext c
  obtain⟨f,g⟩:=c;cases f<;>rfl
def rR(T:Tw prog w A E s L knd a b st){d:Array Keyed}{h nb n g i j:Nat}{c:SortSt}(M:Cz L a b st h nb d c n){Q:H7->SortSt->Prop}(u:∀q z f,Df L a b st q f->Q (some q,z) f)(p:∀h nb d g i j f,Cz L a b st h nb d f n->Q (none,h,nb,d,g,i,j) f):wpS 'r' A E s (Hj a b (none,h,nb,d,g,i,j)) Q c:=by
 unfold Hj;refine bb (I:=λy c f=>∃h nb d g i j,c=(none,h,nb,d,g,i,j)/\Cz L a b st h nb d f (n+y)) (λy c f e l o=>?_) (λc f o=>?_) ⟨h,nb,d,g,i,j,rfl,M⟩
 ·obtain⟨h,nb,d,g,i,j,e,M⟩:=o
  subst e;have fin:∀(g:Nat),wpS 'r' A E s (H1 a b h nb d g i j) (λr c=>match r with | .done m=>Q m c | .yield m=>∃h nb d g i j,m=(none,h,nb,d,g,i,j)/\Cz L a b st h nb d c (n+(y+1))) f:=λg=>aZ (rP T M) λr c l=>by
   cases r with
   | done m=>
     rcases l with⟨q,z,e,f⟩ | ⟨h,nb,d,g,i,j,e,M⟩
     ·subst e;exact u q z c f
     ·subst e;exact p _ _ _ _ _ _ c (M.le 'o')
   | yield m=>exact l
  show wpS _ _ _ _ (if g>1 then H1 a b h nb d (g-1) i j else H1 a b h nb d g i j) _ _;by_cases f:g>1
  ·rw[if_pos f];exact aZ (fin (g-1)) λr c l=>by cases r<;>exact l
  ·rw[if_neg f];exact aZ (fin g) λr c l=>by cases r<;>exact l
 ·obtain⟨h,nb,d,g,i,j,e,M⟩:=o
  have:=M.ha;have:=M.hb;have:=M.far;omega
def rS(T:Tw prog w A E s L knd a b st)(e:0<a.size)(c:0<b.size){Q:Array Keyed->SortSt->Prop}(h:∀r d,Bv st d->D7 L a b r.toList->Q r d):wpS 'r' A E s (mhi a b) Q st:=by
 rw[rQ];refine af (wpS_lift (bc {rfl,?_}));refine af (aN (show a.size-1<a.size by omega) ?_);have l:Mh L a b (#[a[a.size-1]]:Array Keyed).toList.reverse (a.size-1) b.size:=by
  have z:Mh L a b [] a.size b.size:={by rw[DR 'd',DR 'd',C8],List.Pairwise.nil,λx c=>absurd c 'd',λx c=>absurd c 'd'};exact T.putA (out:=#[]) z e (Al _) T.hl
 by_cases e:(a.size-1 == 0)=true
 ·rw[if_pos e]
  have f:=T.dA (out:=#[a[a.size-1]]) l (Al _) (beq_iff_eq.mp e) Bv.refl;exact al (h _ _ f.1 f.2)
 rw[if_neg e];by_cases c:(b.size == 1)=true
 ·rw[if_pos c]
  have f:=T.dF (out:=#[a[a.size-1]]) l 'o' (Al _) (beq_iff_eq.mp c) Bv.refl;exact al (h _ _ f.1 f.2)
 rw[if_neg c];have g:1<b.size:=by
  have:¬b.size=1:=by simpa using c
  omega
 have g:1<a.size:=by
  have:¬a.size-1=0:=λz=>e (beq_iff_eq.mpr z)
  omega
 refine af (wpS_get ?_);refine af (aZ (bb (I:=λx c d=>∃g nb out j,c=(none,g,nb,out,j)/\Cz L a b st g nb out d (1+x)) (Q:=λc d=>∃r z,c=(some r,z)/\Df L a b st r d) (λx c d m e i=>?_) (λc d i=>?_) {a.size-1,b.size,#[a[a.size-1]],_,rfl,l,'o','o','o','o',Bv.refl,'o'}) λc d i=>?_)
 ·obtain⟨g,nb,out,j,e,M⟩:=i
  subst e;unfold Ip;refine af (rO T M (λr z c f=>?_) λout g nb m l c M2=>?_)
  ·exact al {r,_,rfl,f}
  ·refine af (wpS_lift (bc {rfl,?_}))
   refine af (rR T M2 (λq z d f=>?_) λg nb out j m l d c=>?_)
   ·exact al {q,_,rfl,f}
   ·exact af (fq c.like λd l=>al {g,nb,out,_,rfl,c.m,c.ha,c.hb,c.la,c.lb,l,c.far})
 ·obtain⟨g,nb,out,j,e,M⟩:=i
  have:=M.ha;have:=M.hb;have:=M.far;omega
 ·obtain⟨r,z,e,f⟩:=i
  subst e;exact al (h _ _ f.1 f.2)
end
instance back(sa:Nat)(l:List Keyed)(xs:Array Keyed):Array Keyed:=l.zipIdx.foldl (λu (p,j)=>u.setIfInBounds (sa+j) p) xs
def rT(i:Nat):mergeAt' i=(do
 let z <-get
 let (some (sa,na,pw),some (sb,nb,_)):=((pendingOf z)[i]?,(pendingOf z)[i+1]?) | unsupported "internal:list.sort.pending"
 set (setPending z (((pendingOf z).setIfInBounds i (sa,na+nb,pw)).eraseIdxIfInBounds (i+1)))
 let some k <-DZ false (<-elem' (arrOf z) sb) (arrOf z) sa na 0 | return false
 let (sa,na):=(sa+k,na-k)
 if na == 0 then return true
 let some nb <-DZ true (<-elem' (arrOf z) (sa+na-1)) (arrOf z) sb nb (nb-1) | return false
 if nb == 0 then return true
 let x:=(arrOf z).extract sa sb
 let y:=(arrOf z).extract sb (sb+nb)
 let out <-if na<=nb then mlo x y else mhi x y
 modify λv=>setArr v (back sa out.toList (arrOf v))
 return (failedOf (<-get)).isNone):=rfl
def rV(b:Nat)(l:List Keyed)(a:Array Keyed):(back b l a).size=a.size:=by
 unfold back
 suffices h:∀(l:List (Keyed×Nat)) (a:Array Keyed),(l.foldl (λu (p,j)=>u.setIfInBounds (b+j) p) a).size=a.size from h _ _
 intro l;induction l with
 | nil=>intro a;rfl
 | cons q l b=>intro a;rw[List.foldl_cons,b];simp
def rW(a:Nat)(l:List Keyed)(b:Array Keyed)(h:a+l.length<=b.size)(i:Nat):(back a l b)[i]?=if a<=i/\i<a+l.length then l[i-a]? else b[i]?:=by
 unfold back
 suffices g:∀(l:List Keyed) (n:Nat) (b:Array Keyed),a+n+l.length<=b.size->((l.zipIdx n).foldl (λu (p,j)=>u.setIfInBounds (a+j) p) b)[i]?=if a+n<=i/\i<a+n+l.length then l[i-(a+n)]? else b[i]? by
  have:=g l 0 b (by simpa using h);simpa using this
 intro l;induction l with
 | nil=>intro n b _;simp;omega
 | cons q l c=>
   intro n b h;simp only[B1] at h;rw[List.zipIdx_cons,List.foldl_cons,c (n+1) _ (by simp;omega)];rw[Array.getElem?_setIfInBounds];by_cases d:a+n=i
   ·subst d
    rw[if_neg 'o',if_pos rfl,if_pos 'o',if_pos 'd'];simp
   ·rw[if_neg (show ¬a+n=i from d)]
    by_cases c:a+n<=i/\i<a+n+(l.length+1)
    ·rw[if_pos 'o',if_pos (by simpa using c)]
     rw[show i-(a+n)=(i-(a+(n+1)))+1 by omega];simp
    ·rw[if_neg 'o',if_neg (by simpa using c)]
def rX(a:Nat)(l:List Keyed)(b:Array Keyed)(h:a+l.length<=b.size):(back a l b).toList=b.toList.take a++(l++b.toList.drop (a+l.length)):=by
 refine List.ext_getElem? λi=>?_
 have:=rW a l b h i;rw[<-FC] at this;have c:b.toList.length=b.size:=by simp
 rw[this,List.getElem?_append,B9,DC 'o'];by_cases c:i<a
 ·rw[if_neg 'o',if_pos c,List.getElem?_take,if_pos c]
  simp
 ·rw[if_neg c,List.getElem?_append]
  by_cases d:i<a+l.length
  ·rw[if_pos 'o',if_pos 'o']
  ·rw[if_neg 'o',if_neg 'o',List.getElem?_drop]
   simp;congr 1;omega
section
variable{knd:SortKind}{st:SortSt}
def rY{z:SortSt}{Q:PUnit->SortSt->Prop}(h:Q ⟨⟩ z):wpS 'r' A E s (set z:SM PUnit) Q st:=by
 unfold wpS;rw[StateT.run_set];exact Aj ⟨rfl,h⟩
def rZ{a:Array Keyed}(h:a.toList.Pairwise (le L)):Up L a 0 a.size:=λi j _ d b=>by
 by_cases e:i=j
 ·subst e;exact KeyOrd.kle_refl _
 ·have c:=Cc d b
  have:=List.pairwise_iff_getElem.mp h i j c b (Fh d e);rw[aL c,aL b];simpa using this
def r0{a:Array Keyed}{i k:Nat}{x:Keyed}(h:x∈(a.toList.drop i).take k):∃j,i<=j/\j<i+k/\j<a.size/\ky L x=KK L a j:=by
 obtain⟨j,c,e⟩:=List.getElem_of_mem h;rw[B9,En,Dz] at c;obtain⟨f,d⟩:=Nat.lt_min.mp c;have b:i+j<a.size:=by rw[CK];exact F6 d
 refine{i+j,Ce i j,Ej f i,b,?_};rw[aL b,<-e];simp[List.getElem_take,List.getElem_drop]
def du{b:Array Keyed}{a c t:Nat}(d:c<=b.size)(e:a+t<c):KK L (b.extract a c) t=KK L b (a+t):=KK_congr (by rw[Array.getElem?_extract,DC d,if_pos (Nat.lt_sub_of_add_lt (CK a t▸e))])
def d8{b:Array Keyed}{c a:Nat}(d:a<=b.size):(b.extract c a).size=a-c:=by rw[Array.size_extract,DC d]
def ly{b:Array Keyed}{p q:Nat}(e:q<=b.size)(u:Up L b p q){a c:Nat}(m:p<=a)(f:c<=q):Up L (b.extract a c) 0 (b.extract a c).size:=λi j _ l h=>by
 have d:=Aw f e;rw[d8 d] at h;have e:a+j<c:=by rw[CK];exact F6 h
 have g:=C5 l a;rw[du d (Cc g e),du d e];exact u _ _ (Aw m (Ce a i)) g (A3 e f)
def lz{b:Array Keyed}(h:KeysOf L b){c d:Nat}:KeysOf L (b.extract c d):=λp a=>h p (by
 rw[Array.toList_extract,List.extract_eq_drop_take] at a;exact List.mem_of_mem_drop (List.mem_of_mem_take a))
def r5{a:Array Keyed}{k n m:Nat}{l:List Keyed}(d:k<=n)(b:n<=m)(o:m<=a.size)(W:D7 L (a.extract k n) (a.extract n m) l)(r:Up L a 0 n)(A:Up L a n a.size)(B:∀i,i<k->∀j,n<=j->j<a.size->L.kle (KK L a i) (KK L a j))(F:∀i,i<n->∀j,m<=j->j<a.size->L.kle (KK L a i) (KK L a j)) :
 (back k l a).Perm a/\Up L (back k l a) 0 (back k l a).size:=by
 have z:=Aw b o;have e:=Aw d b;have f:l.length=m-k:=by
  have g:(a.extract k n).toList.length=n-k:=d8 z;have c:(a.extract n m).toList.length=m-n:=d8 o;rw[W.1.length_eq,A4,g,c,CK,Nat.sub_add_sub_cancel b d]
 have c:k+(m-k)=m:=Ff e;have bl:=rX k l a (by rw[f,c];exact o);rw[f,c] at bl;have e:(a.extract k n).toList++(a.extract n m).toList=(a.toList.drop k).take (m-k):=by
  rw[bw z,bw o,<-Nat.sub_add_sub_cancel b d,CK (m-n),List.take_add,List.drop_drop,Ff d]
 have y:=W.1;rw[e] at y;have top:∀{i j},i<=j->j<n->L.kle (KK L a i) (KK L a j):=λh g=>r _ _ (AR _) h g
 refine{?_,rZ ?_}
 ·rw[Array.perm_iff_toList_perm,bl]
  have:a.toList=a.toList.take k++((a.toList.drop k).take (m-k)++a.toList.drop m):=by
   conv=>rhs;rw[<-c,<-List.drop_drop,GQ,List.take_append_drop,List.take_append_drop]
  refine List.Perm.trans (List.Perm.append_left _ (List.Perm.append_right _ y)) ?_;rw[<-this]
 ·rw[bl]
  have g:∀{p q:Nat},q<=a.size->Up L a p q->((a.toList.drop p).take (q-p)).Pairwise (le L):=λ{p q} f u=>by
   rw[List.pairwise_iff_getElem];intro i j v r e;have s:∀{i},i<((a.toList.drop p).take (q-p)).length->p+i<q:=λh=>by
    rw[B9] at h;rw[CK];exact F6 (A3 h (Nat.min_le_left _ _))
   have:=u (p+i) (p+j) (Ce p i) (C5 (Bw e) p) (s r);rw[aL (A3 (s v) f),aL (A3 (s r) f)] at this;simpa [List.getElem_drop,List.getElem_take] using this
  have E:∀x∈l,∃j,k<=j/\j<m/\ky L x=KK L a j:=λx l=>by
   obtain⟨j,f,s,_,e⟩:=r0 (L:=L) (y.mem_iff.mp l);exact{j,f,c▸s,e}
  refine Eh.mpr {?_,Eh.mpr {W.2,?_,λx l y c=>?_},λx l y c=>?_}
  ·exact g (p:=0) (q:=k) (Aw d z) (λi j C u h=>top u (A3 h d))
  ·have:=g (p:=m) (q:=a.size) (Al _) (λi j C u h=>A i j (Aw b C) u h)
   rwa [DR 'd'] at this
  ·obtain⟨i,f,s,e⟩:=E x l
   obtain⟨j,g,d,h⟩:=dq (L:=L) c;show L.kle (ky L x) (ky L y);rw[e,h];by_cases v:i<n
   ·exact F i v j g d
   ·exact A i j (FH v) (Bw (A3 s g)) d
  ·obtain⟨i,f,s,e⟩:=d7 (L:=L) l
   show L.kle (ky L x) (ky L y);rw[e];rcases Br.mp c with c | c
   ·obtain⟨j,g,d,h⟩:=E y c
    rw[h];by_cases r:j<n
    ·exact top (Bw (A3 f g)) r
    ·exact B i f j (FH r) (A3 d o)
   ·obtain⟨j,g,d,h⟩:=dq (L:=L) c
    rw[h];exact B i f j (Aw b g) d
def lA{a:Array Keyed}{n:Nat}(m:0<n)(b:n<a.size)(g:Up L a 0 n)(f:Up L a n a.size)(h:L.kle (KK L a (n-1)) (KK L a n)):Up L a 0 a.size:=λi j b d l=>by
 by_cases e:j<n
 ·exact g i j b d e
 ·by_cases c:n<=i
  ·exact f i j c d l
  ·exact KeyOrd.kle_trans (g i (n-1) b (Nat.le_sub_one_of_lt (Nat.lt_of_not_le c)) (Nat.sub_lt m Nat.one_pos)) (KeyOrd.kle_trans h (f n j (Al _) (FH e) l))
def r9(C:Db prog w A E s L knd)(a:KeysOf L a₀){base n j:Nat}(b:Up L a₀ base (base+n))(c:base+n<=a₀.size)(d:j<a₀.size):Cut prog w A E s knd false a₀[j] a₀ base n (λi=>!L.blt (KK L a₀ j) (KK L a₀ (base+i))) where
 far:=λi st Q e c h=>by
  unfold far;refine af (aN 'o' ?_);show wpS _ _ _ _ (lt' a₀[j] a₀[base+i] >>= λx=>pure (x.map (!·))) Q st;exact af (dr C c a a d 'o' (al h))
 mono:=λi k c a h=>by
  have h:L.blt (KK L a₀ j) (KK L a₀ (base+k))=false:=by simpa using h
  have:=KeyOrd.kle_trans (b (base+i) (base+k) 'o' 'o' 'o') h;have:L.blt (KK L a₀ j) (KK L a₀ (base+i))=false:=this;simp[this]
def sd(C:Db prog w A E s L knd)(a:KeysOf L a₀){base n i:Nat}(d:Up L a₀ base (base+n))(b:base+n<=a₀.size)(c:i<a₀.size):Cut prog w A E s knd true a₀[i] a₀ base n (λk=>L.blt (KK L a₀ (base+k)) (KK L a₀ i)) where
 far:=λk st Q b e h=>by
  unfold far;refine af (aN 'o' ?_);show wpS _ _ _ _ (lt' a₀[base+k] a₀[i]) Q st;exact dr C e a a 'o' c h
 mono:=λp q b a h=>KeyOrd.klt_of_kle_of_klt (d (base+p) (base+q) 'o' 'o' 'o') h
def se{a:Array Keyed}(h:KeysOf L a₀)(p:a.Perm a₀):KeysOf L a:=λq b=>h q ((Array.perm_iff_toList_perm.mp p).mem_iff.mp b)
def sf(C:Db prog w A E s L knd)(f:KeysOf L a₀){a d e:Nat}(B:Bs a₀ knd #[(0,a,e),(a,d,0)] st)(j:0<a)(q:0<d)(l:a+d=a₀.size)(p:Up L (arrOf st) 0 a)(g:Up L (arrOf st) a a₀.size){Q:Bool->SortSt->Prop}(h:∀b,Bs a₀ knd #[(0,a+d,e)] b->Up L (arrOf b) 0 a₀.size->Q true b):wpS 'r' A E s (mergeAt' 0) Q st:=by
 rw[rT];refine af (wpS_get ?_);have c:(pendingOf st)[0]?=some (0,a,e):=by rw[B.pend];rfl
 have m:(pendingOf st)[0+1]?=some (a,d,0):=by rw[B.pend];rfl
 have i:∀z:Nat×Nat×Nat,((pendingOf st).setIfInBounds 0 z).eraseIdxIfInBounds (0+1)=#[z]:=λz=>by rw[B.pend];simp[Array.eraseIdxIfInBounds]
 rw[c,m];dsimp only;rw[i];refine af (rY ?_);have y:=B.size;have v:=se f B.perm;have c:Up L (arrOf st) a (arrOf st).size:=by rw[y];exact g
 have o:Bs a₀ knd #[(0,a+d,e)] (setPending st #[(0,a+d,e)]):=⟨B.perm,B.kind,B.fail,rfl⟩;generalize f:setPending st #[(0,a+d,e)]=st1 at o;have g:arrOf st1=arrOf st:=by rw[<-f]
 rw[<-g] at y v p c ⊢;have fin:Up L (arrOf st1) 0 (arrOf st1).size->Q true st1:=λu=>h st1 o (by rw[<-y];exact u)
 generalize x:arrOf st1=xs at *;have F:a+d=xs.size:=l.trans y.symm;have r:a<xs.size:=F▸Nat.lt_add_of_pos_right q;have N:a-1<a:=Nat.sub_lt j Nat.one_pos;have I:=Bw r;refine af (aN r (af (dn (r9 C v (base:=0) (n:=a) (by simpa using p) (by rw[Aq];exact I) r) o.kind j λk O e f=>?_)));dsimp only;simp only[Aq] at e f ⊢;have e:∀i,i<k->L.kle (KK L xs i) (KK L xs a):=λi B=>(show L.blt (KK L xs a) (KK L xs i)=false by simpa using e i B)
 have f:∀i,k<=i->i<a->L.blt (KK L xs a) (KK L xs i)=true:=λi m g=>by simpa using f i m g
 by_cases l:a-k=0
 ·rw[if_pos (beq_iff_eq.mpr l)]
  exact al (fin (lA j r p c (e _ (A3 N (Nat.le_of_sub_eq_zero l)))))
 rw[if_neg (λz=>l (beq_iff_eq.mp z))];have g:0<a-k:=Nat.pos_of_ne_zero l;rw[show k+(a-k)-1=a-1 by rw[Ff O]];have R:k+(a-k-1)=a-1:=by rw[<-Nat.add_sub_assoc g,Ff O]
 have l:=Nat.lt_trans N r;refine af (aN l (af (dn (sd C v (base:=a) (n:=d) (by rw[F];exact c) (BX F) l) o.kind (Nat.sub_lt q Nat.one_pos) λm J G d=>?_)));dsimp only;by_cases l:m=0
 ·rw[if_pos (beq_iff_eq.mpr l)]
  exact al (fin (lA j r p c (d 0 (BX l) q)))
 rw[if_neg (λz=>l (beq_iff_eq.mp z))];have d:∀j,a+m<=j->j<xs.size->L.kle (KK L xs (a-1)) (KK L xs j):=λj q u=>by
  obtain⟨t,rfl⟩:=Nat.le.dest (Aw (Ce a m) q);exact d t (Nat.le_of_add_le_add_left q) (Nat.lt_of_add_lt_add_left (F▸u))
 have M:a+m<=xs.size:=F▸C5 J a;have z:(xs.extract k a).size=a-k:=d8 I;have F:(xs.extract a (a+m)).size=m:=by rw[d8 M,GQ]
 have P:=Nat.pos_of_ne_zero l;have r:a+0<a+m:=Ej P a;have J:∀{j},j<a-k->k+j<a:=λh=>by rw[CK];exact F6 h
 have T:Tw prog w A E s L knd (xs.extract k a) (xs.extract a (a+m)) st1:=by
  refine{{C,lz v,lz v,ly I p (AR _) (Al _),ly (Al _) c (Al _) M,λj l=>?_,o.kind},λj l=>?_}
  ·rw[F] at l
   rw[z,du I (by rw[R];exact N),du M (Ej l a),R];exact KeyOrd.kle_of_klt (G j l)
  ·rw[z] at l
   rw[du M r,du I (J l)];exact KeyOrd.kle_of_klt (f _ (Ce k j) (J l))
 have f:∀(r:Array Keyed) (b:SortSt),Bv st1 b->D7 L (xs.extract k a) (xs.extract a (a+m)) r.toList->wpS 'r' A E s (do
  modify λv=>setArr v (back k r.toList (arrOf v))
  return (failedOf (<-get)).isNone) Q b:=λr b l W=>by
  have J:=r5 O (Ce a m) M W p c (λi B j q u=>KeyOrd.kle_trans (e i B) (c a j (Al _) q u)) (λi B j q u=>KeyOrd.kle_trans (p i (a-1) (AR _) (Nat.le_sub_one_of_lt B) N) (d j q u));refine af (bt (af (wpS_get ?_)));have d:failedOf b=none:=l.fail.trans o.fail;have c:arrOf b=xs:=l.arr.trans x;have e:(failedOf (setArr b (back k r.toList (arrOf b)))).isNone=true:=by show (failedOf b).isNone=true;rw[d];rfl
  rw[e];refine al (h _ {?_,l.kind.trans o.kind,d,l.pend.trans o.pend} ?_)
  ·show (back k r.toList (arrOf b)).Perm a₀
   rw[c];have:=o.perm;rw[x] at this;exact J.1.trans this
  ·show Up L (back k r.toList (arrOf b)) 0 a₀.size
   rw[c];have:=J.2;rwa [rV,y] at this
 by_cases b:a-k<=m
 ·rw[if_pos b]
  refine af (rL T.toTwo (z▸g) (Nat.lt_of_lt_of_eq P F.symm) (T.hf 0 (z▸g)) f)
 ·rw[if_neg b]
  refine af (rS T (z▸g) (Nat.lt_of_lt_of_eq P F.symm) f)
def sg{n:Nat}(a:2<=n)(h:n<128):∃m,minRun' n n 0=m/\1<=m/\m<=n/\n<=2*m:=by
 obtain⟨f,rfl⟩:∃f,n=f+1+1:={n-2,'o'};rw[minRun'_succ];by_cases a:f+1+1<64
 ·rw[if_pos a]
  exact{_,rfl,'o','o','o'}
 ·rw[if_neg a,minRun'_succ,if_pos 'o']
  exact{_,rfl,'o','o','o'}
def lB{b a:Array Keyed}{c d i:Nat}(o:Bz b a c d)(h:i<c\/d<=i):KK L a i=KK L b i:=KK_congr (o i h)
def Up.out{a b:Array Keyed}{c e n:Nat}(u:Up L a 0 n)(o:Bz a b c e)(h:n<=c):Up L b 0 n:=λi j d f g=>by
 rw[lB o (.inl 'o'),lB o (.inl 'o')];exact u i j d f g
def Iq(L:KeyKind)(a₀:Array Keyed)(knd:SortKind)(m x lo:Nat)(st:SortSt):Prop:=
 (x=0/\lo=0/\Bs a₀ knd #[] st)\/
 (x=1/\lo<a₀.size/\m<=lo/\Bs a₀ knd #[(0,lo,0)] st/\Up L (arrOf st) 0 lo)\/
 (1<=x/\lo=a₀.size/\∃pw,Bs a₀ knd #[(0,a₀.size,pw)] st/\Up L (arrOf st) 0 a₀.size)\/
 (2<=x/\lo=a₀.size/\∃n1 n2 pw,0<n1/\0<n2/\n1+n2=a₀.size/\Bs a₀ knd #[(0,n1,pw),(n1,n2,0)] st/\Up L (arrOf st) 0 n1/\Up L (arrOf st) n1 a₀.size)
instance Dm(L:KeyKind)(a₀:Array Keyed)(knd:SortKind)(st:SortSt):Prop:=
 (∃pw,Bs a₀ knd #[(0,a₀.size,pw)] st/\Up L (arrOf st) 0 a₀.size)\/
 ∃n1 n2 pw,0<n1/\0<n2/\n1+n2=a₀.size/\Bs a₀ knd #[(0,n1,pw),(n1,n2,0)] st/\Up L (arrOf st) 0 n1/\Up L (arrOf st) n1 a₀.size
def Bs.push{P:Array (Nat×Nat×Nat)}(B:Bs a₀ knd P st)(z:Nat×Nat×Nat):Bs a₀ knd (P.push z) (setPending st ((pendingOf st).push z)):={B.perm,B.kind,B.fail,by show (pendingOf st).push z=_;rw[B.pend]}
def lD{m n:Nat}(B:Bs a₀ knd #[] st)(c:m<=n)(b:1<=m)(a:n<=a₀.size)(u:Up L (arrOf st) 0 (0+n)):Iq L a₀ knd m (0+1) (0+n) (setPending st ((pendingOf st).push (0,n,0))):=by
 have a:=B.push (0,n,0);simp only[Aq] at u ⊢;by_cases b:n=a₀.size
 ·subst b
  exact .inr (.inr (.inl {'o',rfl,0,a,u}))
 ·exact .inr (.inl {rfl,'o',c,a,u})
def si(C:Db prog w A E s L knd)(u:KeysOf L a₀)(B:Bs a₀ knd #[] st)(c:2<=a₀.size)(a:a₀.size<128){Q:Unit->SortSt->Prop}(h:∀e,(arrOf e).Perm a₀->failedOf e=none->Up L (arrOf e) 0 a₀.size->Q () e):wpS 'r' A E s sortRuns' Q st:=by
 rw[sortRuns'_eq];refine af (wpS_get ?_);dsimp only;obtain⟨m,d,b,f,g⟩:=sg c a;simp only[B.size,d];refine af (aZ (bb (I:=λx c e=>∃d,c=(none,d)/\Iq L a₀ knd m x d e) (Q:=λc e=>∃d,c=(none,d)/\Dm L a₀ knd e) ?step ?fin {0,rfl,.inl ⟨rfl,rfl,B⟩}) ?post);case fin=>
  rintro c e ⟨d,rfl,R⟩;rcases R with⟨G,_,_⟩ | ⟨G,_,_⟩ | ⟨_,_,R⟩ | ⟨_,_,R⟩
  ·omega
  ·omega
  ·exact{d,rfl,.inl R}
  ·exact{d,rfl,.inr R}
 case step=>
  rintro x c e _ G ⟨d,rfl,R⟩;dsimp only;rcases R with⟨rfl,rfl,y⟩ | ⟨rfl,a,g,y,r⟩ | ⟨_,rfl,R⟩ | ⟨_,rfl,R⟩
  ·rw[if_neg 'o']
   refine af (kZ C u y 'o' 'o' λn a i l E s o=>?_);dsimp only;by_cases j:n<m
   ·rw[if_pos j]
    refine af (wpS_lift (bc {rfl,?_}));rw[Nat.sub_zero,Nat.min_eq_right f];refine af (k8 C u i 'o' 'o' s λg p F J=>?_);simp only[Dl,BV,if_false];refine af (wpS_get ?_);have q:(pendingOf g).back?=none:=by rw[p.pend];rfl
    rw[q];dsimp only;exact af (bt (al {_,rfl,lD p (Al _) b f F}))
   ·rw[if_neg j]
    refine af (wpS_get ?_);have q:(pendingOf a).back?=none:=by rw[i.pend];rfl
    rw[q];dsimp only;exact af (bt (al {_,rfl,lD i 'o' b 'o' s}))
  ·rw[if_neg 'o']
   have v:∀(a:SortSt) (n:Nat),n=a₀.size-d->Bs a₀ knd #[(0,d,0)] a->Up L (arrOf a) d (d+n)->Up L (arrOf a) 0 d->∀f,Iq L a₀ knd m (1+1) (d+n) (setPending (setPending a ((pendingOf a).modify ((pendingOf a).size-1) λ(st,b,_)=>(st,b,f))) ((pendingOf (setPending a ((pendingOf a).modify ((pendingOf a).size-1) λ(st,b,_)=>(st,b,f)))).push (d,n,0))):=λa n b i A r f=>by
    subst b;rw[show d+(a₀.size-d)=a₀.size by omega] at A ⊢;refine .inr (.inr (.inr {'o',rfl,d,a₀.size-d,f,'o','o','o',{i.perm,i.kind,i.fail,?_},r,A}));show ((pendingOf a).modify ((pendingOf a).size-1) _).push _=_;rw[i.pend];rfl
   have b:∀(a:SortSt) (n f:Nat) (b:ForInStep (Option Unit×Nat)->SortSt->Prop),Bs a₀ knd #[(0,d,0)] a->True:=λ_ _ _ _ _=>trivial
   refine af (kZ C u y 'o' 'o' λn a i l E s o=>?_);have z:=r.out o (Al _);dsimp only;by_cases j:n<m
   ·rw[if_pos j]
    refine af (wpS_lift (bc {rfl,?_}));rw[DC (show a₀.size-d<=m by omega)];refine af (k8 C u i 'o' 'o' s λg p F J=>?_);have o:=z.out J (Al _);simp only[Dl,BV,if_false];refine af (wpS_get ?_);have q:(pendingOf g).back?=some (0,d,0):=by rw[p.pend];rfl
    rw[q];dsimp only;refine af (aZ (bb (I:=λ_ c b=>c=(none,())/\b=g) (Q:=λc b=>c=(none,())/\b=g) (λy c b E J l=>?_) (λc b l=>l) ⟨rfl,rfl⟩) λc b l=>?_)
    ·obtain⟨n,m⟩:=l
     subst n;rw[m];refine af (wpS_get ?_);have M:(pendingOf g).size=1:=by rw[p.pend];rfl
     rw[if_neg (show ¬(pendingOf g).size>1 by omega)];exact al ⟨rfl,rfl⟩
    ·obtain⟨n,m⟩:=l
     subst n m;dsimp only;exact af (bt (af (bt (al {_,rfl,v _ _ rfl p F o _}))))
   ·rw[if_neg j]
    refine af (wpS_get ?_);have q:(pendingOf a).back?=some (0,d,0):=by rw[i.pend];rfl
    rw[q];dsimp only;refine af (aZ (bb (I:=λ_ c b=>c=(none,())/\b=a) (Q:=λc b=>c=(none,())/\b=a) (λy c b E J l=>?_) (λc b l=>l) ⟨rfl,rfl⟩) λc b l=>?_)
    ·obtain⟨n,m⟩:=l
     subst n;rw[m];refine af (wpS_get ?_);have M:(pendingOf a).size=1:=by rw[i.pend];rfl
     rw[if_neg (show ¬(pendingOf a).size>1 by omega)];exact al ⟨rfl,rfl⟩
    ·obtain⟨n,m⟩:=l
     subst n m;dsimp only;exact af (bt (af (bt (al {_,rfl,v _ _ 'o' i s z _}))))
  ·rw[if_pos (Al _)]
   exact al {_,rfl,.inl R}
  ·rw[if_pos (Al _)]
   exact al {_,rfl,.inr R}
 case post=>
  rintro c e ⟨d,rfl,R⟩;dsimp only;refine af (aZ (bb (I:=λx c a=>c=(none,())/\((x=0/\Dm L a₀ knd a)\/∃f,Bs a₀ knd #[(0,a₀.size,f)] a/\Up L (arrOf a) 0 a₀.size)) (Q:=λc a=>c=(none,())/\∃f,Bs a₀ knd #[(0,a₀.size,f)] a/\Up L (arrOf a) 0 a₀.size) ?_ ?_ {rfl,.inl ⟨rfl,R⟩}) ?_)
  ·rintro x c a _ _ ⟨rfl,R⟩
   refine af (wpS_get ?_);have d:(∃f,Bs a₀ knd #[(0,a₀.size,f)] a/\Up L (arrOf a) 0 a₀.size)->(pendingOf a).size=1:=λ⟨f,B,_⟩=>by rw[B.pend];rfl
   rcases R with⟨_,R | ⟨e,l,f,j,i,g,p,r,A⟩⟩ | R
   ·rw[if_pos (by rw[d R];exact Al 1)]
    exact al ⟨rfl,R⟩
   ·have M:(pendingOf a).size=2:=by rw[p.pend];rfl
    rw[if_neg 'o',M];show wpS _ _ _ _ (mergeAt' 0 >>= _) _ _;refine af (sf C u p j i g r A λb e j=>?_);rw[g] at e;exact al {rfl,.inr ⟨f,e,j⟩}
   ·rw[if_pos (by rw[d R];exact Al 1)]
    exact al ⟨rfl,R⟩
  ·rintro c a ⟨rfl,R⟩
   rcases R with⟨G,_⟩ | R
   ·omega
   ·exact⟨rfl,R⟩
  ·rintro c a ⟨rfl,f,B,u⟩
   exact al (h _ B.perm B.fail u)
end
open PySem PyProof PyProof.Rows
def EQ(h:Heap):Value->Option (Int×Int)
 | .ref a=>match h.get? a with
   | some o=>match o.data with
     | .seq xs _=>match xs.toList with
       | [.int x _,.int y _]=>some (x,y)
       | _=>none
     | _=>none
   | none=>none
 | _=>none
def Bq(h:Heap)(v:Value)(p:Int×Int):Prop:=∃a o n t u,v=.ref a/\h.get? a=some o/\o.cls=.type "tuple"/\o.data=.seq #[.int p.1 t,.int p.2 u] n
def Bq.key{h:Heap}{v:Value}{p:Int×Int}(z:Bq h v p):EQ h v=some p:=by
 obtain⟨a,o,n,t,u,rfl,g,_,d⟩:=z;simp[EQ,g,d]
open H in
def lE{h:Heap}{v:Value}{p:Int×Int}(z:EQ h v=some p):∃a o n t u,v=.ref a/\h.get? a=some o/\o.data=.seq #[.int p.1 t,.int p.2 u] n:=by
 unfold EQ at z;split at z
 ·rename_i a
  split at z
  ·rename_i o g
   split at z
   ·rename_i b n d
    split at z
    ·rename_i x t y u e
     cases z;refine{a,o,n,t,u,rfl,g,?_};rw[d];congr 1;exact Array.toList_inj.mp e
    ·cases z
   ·cases z
  ·cases z
 ·cases z
instance lx(a b:Int×Int):Bool:=decide (a.1<b.1\/a.1=b.1/\a.2<b.2)
def gZ{a b:Int×Int}:lx a b=true↔(a.1<b.1\/a.1=b.1/\a.2<b.2):=decide_eq_true_iff
def cL{a b:Int×Int}:lx a b=false↔¬(a.1<b.1\/a.1=b.1/\a.2<b.2):=decide_eq_false_iff_not
def sj(a:Int×Int):lx a a=false:=cL.mpr λh=>h.elim (Int.lt_irrefl _) λz=>Int.lt_irrefl _ z.2
def lF{a b c:Int×Int}(e:lx a b=true)(d:lx b c=true):lx a c=true:=gZ.mpr (match gZ.mp e,gZ.mp d with
 | .inl p,.inl q=>.inl (Int.lt_trans p q)
 | .inl p,.inr q=>.inl (q.1▸p)
 | .inr p,.inl q=>.inl (p.1▸q)
 | .inr p,.inr q=>.inr {p.1.trans q.1,Int.lt_trans p.2 q.2})
def lG(c:lx a b=false)(d:lx b a=false):a=b:=
 have e:a.1=b.1:=Int.le_antisymm (Int.not_lt.mp λz=>cL.mp d (.inl z)) (Int.not_lt.mp λz=>cL.mp c (.inl z))
 Prod.ext e (Int.le_antisymm (Int.not_lt.mp λz=>cL.mp d (.inr ⟨e.symm,z⟩)) (Int.not_lt.mp λz=>cL.mp c (.inr ⟨e,z⟩)))
def sk(b:Int×Int)(h:lx a c=true):lx a b=true\/lx b c=true:=
 match e:lx a b with
 | true=>.inl rfl
 | false=>match e':lx b a with
   | true=>.inr (lF e' h)
   | false=>.inr (lG e e'▸h)
def Fx(h:Heap):KeyKind where
 α:=Int×Int
 blt:=lx
 irrefl:=sj
 trans:=λ_ _ _=>lF
 negTrans:=λ_ b _ h=>sk b h
 total:=λ_ _=>lG
 keyOf:=EQ h
 dflt:=(0,0)
section
variable{prog:Program}{w:World}{A:Around}{E:Value->Shared->Prop}{s:Shared}
def sm(f:Bool)(x y:Value):keyLt' (tuples' f) x y=(do
 let a <-Builtin.List.listItems x
 let b <-Builtin.List.listItems y
 for ((p,q),i) in (a.toList.zip b.toList).zipIdx do
  if !(<-eqBool p q) then return <-oneLt' (f&&i == 0) p q
 return decide (a.size<b.size)):=rfl
def sr{x y:Int}{t u:Tok}{Q:Bool->Shared->Prop}(h:Q (decide (x<y)) s):wpAny 'r' A (oneLt' false (.int x t) (.int y u)) Q E s:=by
 rw[oneLt'_eq];simp only[BV,if_false];refine Ac (wpAny_richCompare_same (id:="int.__lt__") (typeIs_int s x t) (typeIs_int s y u) slot_int_lt (call_int_lt {'d',?_}));exact Ee h
def ss:Db prog w A E s (Fx s.heap) (tuples' true):=by
 intro e x y a b Q d c m h;obtain⟨i,o,n,t,u,p,l,f⟩:=lE c;obtain⟨j,o2,o,i,n,g,e,c⟩:=lE m;rw[lt'_eq];refine af (wpS_get ?_);rw[d,sm,p,g];refine af (wpS_lift (wpAny_attempt (Ac (listItems_at l f (Ac (listItems_at e c ?_))))));simp only[List.zip_cons_cons,List.zipIdx_cons,List.forIn_cons,List.zip_nil_left,List.zipIdx_nil,List.forIn_nil];refine Ac (Ac (Ac (wpAny_eqBool_int ?_)));by_cases c:a.1=b.1
 ·rw[if_neg (by simp[c])]
  refine Aj (Ac (Ac (wpAny_eqBool_int ?_)));by_cases d:a.2=b.2
  ·rw[if_neg (by simp[d])]
   refine Aj (Aj (Aj {rfl,al ?_}));rw[show (Fx s.heap).blt a b=false from cL.mpr λz=>z.elim (λz=>Int.lt_irrefl _ (c▸z)) λz=>Int.lt_irrefl _ (d▸z.2)] at h;exact h
  ·rw[if_pos (by simp[d])]
   refine Ac (sr (Aj (Aj (Aj {rfl,al ?_}))));rw[show (Fx s.heap).blt a b=decide (a.2<b.2) from decide_eq_decide.mpr {λz=>z.elim (λz=>absurd (c▸z) (Int.lt_irrefl _)) (·.2),λz=>.inr ⟨c,z⟩}] at h;exact h
 ·rw[if_pos (by simp[c])]
  refine Ac (oneLt_int (Aj (Aj (Aj {rfl,al ?_}))));rw[show (Fx s.heap).blt a b=decide (a.1<b.1) from decide_eq_decide.mpr {λz=>z.elim id λz=>absurd z.1 c,.inl}] at h;exact h
theorem lH{α β:Type}{f:α->Sem β}{g:α->β}:∀(l:List α) (Q:List β->Shared->Prop),(∀x∈l,∀R:β->Shared->Prop,R (g x) s->wpAny 'r' A (f x) R E s)->Q (l.map g) s->wpAny 'r' A (l.mapM f) Q E s
 | [],Q,_,h=>by rw[List.mapM_nil];exact Aj h
 | x::l,Q,k,h=>by
   rw[List.mapM_cons];exact Ac (k x (C6 ..) _ (Ac (lH l _ (λy a=>k y (DU _ a)) (Aj h))))
instance fst?(h:Heap)(v:Value):Option Value:=match v with
 | .ref a=>match h.get? a with
   | some o=>match o.data with
     | .seq xs _=>xs[0]?
     | _=>none
   | none=>none
 | _=>none
def su(v:Value):firstOfTuple' v=(do
 if (<-typeOf v) != .type "tuple" then return none
 return (<-Builtin.List.listItems v)[0]?):=rfl
def Bq.fst{h:Heap}{v:Value}{p:Int×Int}(z:Bq h v p):∃t,fst? h v=some (.int p.1 t):=by
 obtain⟨a,o,n,t,u,rfl,g,_,d⟩:=z;exact{t,by simp[fst?,g,d]}
def sv{b:List Value}(f:∀v∈b,∃p,Bq s.heap v p)(j:b≠[]){Q:SortKind->Shared->Prop}(h:Q (tuples' true) s):wpAny 'r' A (keyKind' b.toArray) Q E s:=by
 rw[keyKind'_eq,List.mapM_toArray];refine Ac ?_;rw[map_eq_pure_bind];refine Ac (lH (g:=fst? s.heap) b _ (λv m R e=>?_) (Aj ?_))
 ·obtain⟨p,z⟩:=f v m
  obtain⟨a,o,n,t,u,rfl,g,c,d⟩:=z;rw[su];refine Ac (wpAny_typeOf (T:="tuple") ⟨o,g,c⟩ ?_);rw[if_neg 'd'];refine Ac (listItems_at g d (Aj ?_));have:fst? s.heap (.ref a)=some (.int p.1 t):=by simp[fst?,g,d]
  rw[this] at e;exact e
 ·have a:((b.map (fst? s.heap)).toArray.all (·.isSome))=true:=by
   simp only[List.all_toArray,List.all_map,FI];intro v m;obtain⟨p,z⟩:=f v m;obtain⟨t,e⟩:=z.fst;simp[e]
  rw[if_pos a];refine Ac (bc ?_);have c:∀a:List Value,(∀v∈a,∃p,Bq s.heap v p)->∃ns:List Int,IntsAre ((a.map (fst? s.heap)).filterMap id) ns/\ns.length=a.length:=by
   intro a;induction a with
   | nil=>intro _;exact{[],.nil,rfl}
   | cons v a m=>
     intro k;obtain⟨ns,i,l⟩:=m λx d=>k x (DU _ d)
     obtain⟨p,z⟩:=k v (C6 ..);obtain⟨t,e⟩:=z.fst;refine{p.1::ns,?_,by simp[l]};rw[Be,e];show IntsAre (Value.int p.1 t::(a.map (fst? s.heap)).filterMap id) _;exact .cons _ _ i
  obtain⟨ns,d,l⟩:=c b f;have a:(b.map (fst? s.heap)).toArray.filterMap id=((b.map (fst? s.heap)).filterMap id).toArray:=by simp
  rw[a];cases c:(b.map (fst? s.heap)).filterMap id with
  | nil=>
    rw[c] at d;cases d;cases b with
    | nil=>exact absurd rfl j
    | cons _ _=>simp at l
  | cons e a=>
    rw[c] at d;rw[oneTypeOnly'_eq,List.mapM_toArray,mapM_typeOf_ints d];simp only[map_pure,pure_bind];have c:((List.map (λ_=>Value.type "int") (e::a)).toArray.all λx=>x == Value.type "int")=true:=by
     simp only[List.all_toArray,List.all_map,FI];intro _ _;rfl
    have d:(List.map (λ_=>Value.type "int") (e::a)).toArray[0]?=some (Value.type "int"):=by simp
    rw[d];simp only[c,if_true,pure_bind];exact Aj h
end
abbrev BM(h:Heap)(v:Value):Int×Int:=(EQ h v).getD (0,0)
instance lxle(a b:Int×Int):Prop:=a.1<b.1\/a.1=b.1/\a.2<=b.2
def sx{a b:Int×Int}(h:lx b a=false):lxle a b:=
 have n:=cL.mp h
 match Int.lt_trichotomy a.1 b.1 with
 | .inl p=>.inl p
 | .inr (.inl e)=>.inr {e,Int.not_lt.mp λz=>n (.inr ⟨e.symm,z⟩)}
 | .inr (.inr p)=>absurd (.inl p) n
section
variable{prog:Program}{w:World}{A:Around}{E:Value->Shared->Prop}{s:Shared}
abbrev DD(h:Heap)(a:Addr)(vs:List Value):Heap:=((h.update a (Obj.mapSeq λ_=>#[])).push (seqObj "tuple" vs.toArray 0)).push (seqObj "list" #[] 0)
def sA{h:Heap}{a b:Addr}{o:Obj}{c:List Value}(g:h.get? b=some o)(d:b≠a):(DD h a c).get? b=some o:=by
 have a:=Heap.lt_size g;unfold DD;rw[Gb _ _ _ (by rw[size_push',Heap.size_update];exact Bf (Nat.lt_succ_of_lt a)),Gb _ _ _ (by rw[Heap.size_update];exact Bf a),Heap.get?_update_ne _ _ _ _ d];exact g
def Bq.up1{h:Heap}{a:Addr}{n:Nat}{f i:List Value}(o1:h.get? a=some (seqObj "list" f.toArray n)){v:Value}{p:Int×Int}(z:Bq h v p):Bq (DD h a i) v p:=by
 obtain⟨b,o,m,t,u,rfl,g,c,d⟩:=z;refine{b,o,m,t,u,rfl,sA g λe=>?_,c,d};subst e;rw[o1] at g;cases g;exact absurd (Value.type.inj c) 'z'
def sB{h:Heap}{a:Addr}{n:Nat}{c b:List Value}(o1:h.get? a=some (seqObj "list" c.toArray n)){v:Value}(z:∃p,Bq h v p):EQ (DD h a b) v=EQ h v:=by
 obtain⟨p,z⟩:=z;rw[z.key,(z.up1 o1).key]
def lI{a:Addr}{c:List Value}{n:Nat}{P:Fin->Shared->Prop}(o1:s.heap.get? a=some (seqObj "list" c.toArray n))(r:∀v∈c,∃p,Bq s.heap v p)(g:c.length<128)(h:∀b:Array Value,b.toList.Perm c->b.toList.Pairwise (λx y=>lxle (BM s.heap x) (BM s.heap y))->P (.done (.ret .none)) { s with heap:=sortedHeap s.heap a c b }) :
 wpAny 'r' A (Builtin.«list.sort» {[.ref a],[]}) P E s:=by
 rw[list_sort_plain];have d:a<s.heap.objs.size:=Heap.lt_size o1;refine Ac (listItems_at o1 rfl ?_);refine Ac (listUpdate_at o1 rfl ?_);obtain⟨b,o2⟩:∃b,(s.heap.update a (Obj.mapSeq λ_=>#[])).get? a=some (seqObj "list" #[] b):={_,get?_update_seq o1 (λ_=>#[])};refine Ac (seqEpoch_at o2 rfl ?_);refine Ac (wpAny_newTuple (Ac (wpAny_newList (wpAny_holding ?_))));have l:(DD s.heap a c).get? a=some (seqObj "list" #[] b):=by
  unfold DD;rw[Gb _ _ _ (by rw[size_push',Heap.size_update];exact Bf (Nat.lt_succ_of_lt d)),Gb _ _ _ (by rw[Heap.size_update];exact Bf d)];exact o2
 show wpAny 'r' A _ P E { s with heap:=DD s.heap a c };dsimp only;have b:c.toArray.size=c.length:=by simp
 have fin:∀b:SortSt,(arrOf b).Perm (pairsOf c)->Up (Fx (DD s.heap a c)) (arrOf b) 0 (pairsOf c).size->P (.done (.ret .none)) { s with heap:=sortedHeap s.heap a c ((arrOf b).map (·.2)) }:=by
  intro b d o;have f:(arrOf b).toList.Perm (c.zip c):=by rw[<-pairsOf_toList];exact Array.perm_iff_toList_perm.mp d
  have q:∀p,p∈(arrOf b).toList->p.1=p.2/\p.1∈c:=λp e=>mem_zip_self (f.mem_iff.mp e)
  refine h _ ?_ ?_
  ·rw[Array.toList_map]
   have:=f.map (·.2);rwa [List.map_snd_zip (Al _)] at this
  ·rw[Array.toList_map,F9,List.pairwise_iff_getElem]
   intro i j m u h;have f:i<(arrOf b).size:=by simpa using m
   have e:j<(arrOf b).size:=by simpa using u
   have n:=o i j (AR _) (Bw h) (by rw[<-d.size_eq];exact e);rw[aL f,aL e] at n;have k:∀t (h:t<(arrOf b).size),ky (Fx (DD s.heap a c)) (arrOf b)[t]=BM s.heap (arrOf b)[t].2:=λt h=>by
    have m:=q _ (Array.getElem_mem_toList h);show (EQ (DD s.heap a c) (arrOf b)[t].1).getD (0,0)=_;rw[sB o1 (r _ m.2),m.1]
   rw[k i f,k j e] at n;have:=sx n;simpa using this
 by_cases f:c.toArray.size<2
 ·rw[if_pos f,if_pos f]
  refine Ac (Aj ?_);rw[StateT.run_pure];refine Ac (Aj ?_);dsimp only;refine Ac (seqEpoch_at l rfl ?_);refine Ac (listUpdate_at l rfl ?_ (hsz2:=Aw (BX ((Array.size_map ..).trans (pairsOf_size _))) (by rw[sizeLine_eq];omega)));simp only[bne_self_eq_false,BV,if_false];exact Aj (fin (SortSt.mk' general' (c.toArray.zip c.toArray) #[] 7 none) (Array.Perm.refl _) (Up.one (by rw[pairsOf_size];omega)))
 ·rw[if_neg f,if_neg f]
  refine Ac (sv (s:={ s with heap:=DD s.heap a c }) (λv m=>(r v m).imp λp z=>z.up1 o1) (λe=>by subst e;simp at f) ?_);refine Ac (Di (si (s:={ s with heap:=DD s.heap a c }) (a₀:=pairsOf c) (st:=SortSt.mk' (tuples' true) (c.toArray.zip c.toArray) #[] 7 none) (Q:=λ_ b=>(arrOf b).Perm (pairsOf c)/\failedOf b=none/\Up (Fx (DD s.heap a c)) (arrOf b) 0 (pairsOf c).size) ss (λp d=>?_) {Array.Perm.refl _,rfl,rfl,rfl} (by rw[pairsOf_size];omega) (by rw[pairsOf_size];exact g) λb f h a=>⟨f,h,a⟩) ?_ λ_ _ e=>e)
  ·rw[pairsOf_toList] at d
   obtain⟨q,z⟩:=r _ (mem_zip_self d).2;exact{q,(z.up1 o1).key}
  ·rintro ⟨⟨⟩,b⟩ s' ⟨rfl,d,a,o⟩
   dsimp only;refine Ac (seqEpoch_at l rfl ?_);refine Ac (listUpdate_at l rfl ?_ (hsz2:=Aw (BX ((Array.size_map ..).trans (d.size_eq.trans (pairsOf_size _)))) (by rw[sizeLine_eq];omega)));rw[a];simp only[bne_self_eq_false,BV,if_false];exact Aj (fin b d o)
def sC{l:Addr}{a:List Value}{Q:Value->Shared->Prop}(b:s.heap.IsList l a.toArray)(n:∀v∈a,∃p,Bq s.heap v p)(i:a.length<128)(h:∀e:Array Value,e.toList.Perm a->e.toList.Pairwise (λx y=>lxle (BM s.heap x) (BM s.heap y))->Q (.ref (s.heap.objs.size+1)) { s with heap:=sortedAll s.heap a e }) :
 wpAny 'r' A (call (.builtin "sorted") [.ref l]) Q E s:=by
 refine Calls.call_function_entry kind_sorted plain_sorted entry_sorted (args_sorted1 _) ?_;unfold Builtin.«sorted»;refine Ac (m:=checkCount "sorted" 1 1 _) (Aj (Ac (collect_list b ?_ (by rw[sizeLine_eq];omega))));refine Ac (wpAny_newList ?_);have d:((s.heap.push (seqObj "list" #[] 0)).update s.heap.objs.size (Obj.mapSeq (·++a.toArray))).objs.size=s.heap.objs.size+1:=by
  rw[Heap.size_update,size_push']
 have o1:(((s.heap.push (seqObj "list" #[] 0)).update s.heap.objs.size (Obj.mapSeq (·++a.toArray))).push (seqObj "list" a.toArray 0)).get? (s.heap.objs.size+1)=some (seqObj "list" a.toArray 0):=by
  rw[<-d];exact AZ _ rfl
 show wpAny _ _ _ _ _ { s with heap:=((s.heap.push (seqObj "list" #[] 0)).update s.heap.objs.size (Obj.mapSeq (·++a.toArray))).push (seqObj "list" a.toArray 0) };rw[d];generalize l:((s.heap.push (seqObj "list" #[] 0)).update s.heap.objs.size (Obj.mapSeq (·++a.toArray))).push (seqObj "list" a.toArray 0)=H1 at o1 ⊢;have j:∀b o,s.heap.get? b=some o->H1.get? b=some o:=λb o g=>by
  have c:=Heap.lt_size g;rw[<-l,Gb _ _ _ (by rw[d];exact Bf (Nat.lt_succ_of_lt c)),Heap.get?_update_ne _ _ _ _ (Bf c),Gb _ _ _ (Bf c)];exact g
 have f:∀v p,Bq s.heap v p->Bq H1 v p:=λv p z=>by
  obtain⟨b,o,m,t,u,rfl,g,c,d⟩:=z;exact{b,o,m,t,u,rfl,j _ _ g,c,d}
 have j:∀v∈a,BM H1 v=BM s.heap v:=λv m=>by
  obtain⟨p,z⟩:=n v m;unfold BM;rw[z.key,(f _ _ z).key]
 refine Ac (wpAny_holding (C3 slot_list_sort {_,o1,rfl} entry_list_sort (lI (s:={ s with heap:=H1 }) o1 (λv m=>(n v m).imp λp z=>f v p z) i λe b f=>{_,rfl,?_}) (args_list_sort _)));refine Aj {_,rfl,?_};have:=h e b (f.imp_of_mem λ{x y} d c q=>by
  rw[<-j x (b.mem_iff.mp d),<-j y (b.mem_iff.mp c)];exact q)
 unfold sortedAll at this;rw[l] at this;exact this
end
end Ts
namespace L2
open PySem PySem.Spec PyProof PyProof.Rows Ts
def lJ{α β:Type}{F:α->β->Prop}{d c:List β}(p:c.Perm d):∀{b:List α},Paired F b d->∃a,a.Perm b/\Paired F a c:=by
 induction p with
 | nil=>intro b h;exact{b,.refl _,h}
 | cons x _ f=>
   intro b h;cases h with
   | cons d c=>
     obtain⟨a,p',e⟩:=f c;exact{_,p'.cons _,.cons d e}
 | swap x y l=>
   intro b h;cases h with
   | cons d c=>cases c with
     | cons a e=>exact{_,List.Perm.swap ..,.cons a (.cons d e)}
 | trans _ _ a e=>
   intro b h;obtain⟨g,f,d⟩:=e h;obtain⟨b,g,c⟩:=a d;exact{b,g.trans f,c}
abbrev P2:=Int×Int
instance lxB(a b:P2):Bool:=decide (a.1<b.1\/a.1=b.1/\a.2<=b.2)
def FW(a:P2):List P2->List P2
 | []=>[a]
 | b::l=>if lxB a b then a::b::l else b::FW a l
def AK(l:List P2):List P2:=l.foldr FW []
theorem g7(a:P2):∀l,(FW a l).Perm (a::l)
 | []=>.refl _
 | b::l=>by
   unfold FW;split
   ·exact .refl _
   ·exact((g7 a l).cons b).trans (List.Perm.swap ..)
theorem bx:∀l,(AK l).Perm l
 | []=>.refl _
 | a::l=>(g7 a (AK l)).trans ((bx l).cons a)
def sD(d:lxle a b)(e:lxle b c):lxle a c:=match d,e with
 | .inl p,.inl q=>.inl (Int.lt_trans p q)
 | .inl p,.inr q=>.inl (q.1▸p)
 | .inr p,.inl q=>.inl (p.1▸q)
 | .inr p,.inr q=>.inr {p.1.trans q.1,Int.le_trans p.2 q.2}
def lK(c:lxle a b)(d:lxle b a):a=b:=match c,d with
 | .inl p,.inl q=>absurd q (Int.lt_asymm p)
 | .inl p,.inr q=>absurd (q.1▸p) (Int.lt_irrefl _)
 | .inr p,.inl q=>absurd (p.1▸q) (Int.lt_irrefl _)
 | .inr p,.inr q=>Prod.ext p.1 (Int.le_antisymm p.2 q.2)
open H in
theorem lL(a:P2):∀l,l.Pairwise lxle->(FW a l).Pairwise lxle
 | [],_=>List.pairwise_singleton _ _
 | b::l,h=>by
   have d:=FE.mp h;unfold FW;split
   ·rename_i q
    have q:lxle a b:=(of_decide_eq_true q:a.1<b.1\/a.1=b.1/\a.2<=b.2);refine FE.mpr {λx c=>?_,h};rcases AL.mp c with rfl | c
    ·exact q
    ·exact sD q (d.1 x c)
   ·rename_i q
    have q:lxle b a:=by
     have:¬(a.1<b.1\/a.1=b.1/\a.2<=b.2):=λz=>q (aV z)
     exact match Int.lt_trichotomy b.1 a.1 with
      | .inl p=>.inl p
      | .inr (.inl e)=>.inr {e,Int.le_of_lt (Int.not_le.mp λz=>this (.inr ⟨e.symm,z⟩))}
      | .inr (.inr p)=>absurd (.inl p) this
    refine FE.mpr {λx c=>?_,lL a l d.2};rcases AL.mp ((g7 a l).mem_iff.mp c) with rfl | c
    ·exact q
    ·exact d.1 x c
theorem g8:∀l,(AK l).Pairwise lxle
 | []=>List.Pairwise.nil
 | a::l=>lL a _ (g8 l)
def lM(p:m.Perm l)(u:m.Pairwise lxle):m=AK l:=
 (p.trans (bx l).symm).eq_of_pairwise (λa b _ _ d c=>lK d c) u (g8 l)
abbrev Eu(H:Hp):List V->List P2->Prop:=Paired λv p=>∃b,v=.ref b/\H b=some (.tup [.int p.1,.int p.2])
section
variable{X:Cx}{S:Type}{W:Wd S}{c:Dx W}{g ga gb gc:Gr}{a b:Expr}{fa fb fc:Fn S}{pos p2:Pos}
def xn:CA X (.builtin "sorted") (λE H Q=>∃(a:Addr) (i:List V) (j:List P2),E=[.ref a]/\AT X.K H a i/\Eu H i j/\j.length<128/\∀p l,H p=none->Eu H l (AK j)->Q (.ref p) (Af H p (.lst l))):=by
 intro d s Y H E e Q I r h;obtain⟨a,i,j,rfl,e,x,d,q⟩:=h;obtain⟨u,rfl,r1⟩:=bE r;cases r1;obtain⟨f,B,pl,d⟩:=I.list e;have h:∀{i:List V} {f:List Value} {j:List P2},Ao i f->Eu H i j->Paired (λv u=>An v u/\∃p,(∃b,v=.ref b/\H b=some (.tup [.int p.1,.int p.2]))/\Bq s.heap u p) i f/\f.map (BM s.heap)=j:=by
  intro i f j B;induction B generalizing j with
  | nil=>intro x;cases x;exact{.nil,rfl}
  | cons r1 _ A=>
    intro x;cases x with
    | cons z x=>
      obtain⟨M,G⟩:=A x;obtain⟨b,e,y⟩:=z;have C:=r1;rw[e] at C;obtain⟨r,m,⟨o,g,N,n,d⟩,_⟩:=I.tuple (AN.of y);cases m with
      | cons O m=>cases m with
        | cons L m=>
          cases m;obtain⟨J,rfl⟩:=O;obtain⟨F,rfl⟩:=L;have r:Bq s.heap (.ref b) _:=⟨b,o,n,J,F,rfl,g,N,d⟩;cases C;refine{.cons {r1,_,⟨b,e,y⟩,r} M,?_};rw[Be,G];unfold BM;rw[r.key];rfl
 obtain⟨n,F⟩:=h B x;have C:∀{i:List V} {f:List Value},Paired (λv u=>An v u/\∃p,(∃b,v=.ref b/\H b=some (.tup [.int p.1,.int p.2]))/\Bq s.heap u p) i f->(∀v∈f,∃p,Bq s.heap v p)/\Ao i f/\Eu H i (f.map (BM s.heap)):=by
  intro i f z;induction z with
  | nil=>exact{λv m=>absurd m 'd',.nil,.nil}
  | cons y _ A=>
    obtain⟨r1,p,z,r⟩:=y;refine{λv m=>?_,.cons r1 A.2.1,.cons ?_ A.2.2}
    ·rcases AL.mp m with rfl | m
     ·exact⟨p,r⟩
     ·exact A.1 v m
    ·unfold BM;rw[r.key];exact z
 have h:=B.length;have d:=Paired.length x;refine sC pl.isList (C n).1 'o' λd m p=>?_
 obtain⟨l,pv,h⟩:=lJ m n;have es:d.toList.map (BM s.heap)=AK j:=lM (by rw[<-F];exact m.map _) (by rw[F9];exact p);obtain⟨_,r2,j⟩:=C h;rw[es] at j;obtain⟨e,h⟩:=sortedAll_at s.heap f d;refine{.ref (s.heap.objs.size+1),_,I.laid (t':=s.toks) (a:=s.heap.objs.size+1) (o:=.lst l) (λb o e=>sortedAll_old e) (Nat.le_succ _) ?_,rfl,q _ _ (I.hok.fresh (Nat.le_succ _)) j};exact{by rw[pv.length_eq];exact Bw (eF 'o'),d.toList,e,r2,h}
abbrev Cb(p:P2):D:=.tup [.int p.1,.int p.2]
def CF:List D->Option (List P2)
 | []=>some []
 | .tup [.int x,.int y]::l=>(CF l).map λr=>(x,y)::r
 | _=>none
theorem ft:∀d:List P2,CF (d.map Cb)=some d
 | []=>rfl
 | p::d=>by rw[Be];unfold CF;rw[ft d];rfl
open H in
theorem lO{K:FG}{A:Addr->Prop}{H:Hp}:∀{l:List D} {i:List V} {f:List P2},CF l=some f->aa K A H l i->Eu H i f
 | [],i,f,e,h=>by cases e;rw[aa.nil.mp h];exact .nil
 | d::l,i,f,e,h=>by
   obtain⟨v,r,p,f,n⟩:=aa.cons.mp h;unfold CF at e;split at e
   ·rename_i d;cases d
   ·rename_i x y m d
    cases d;cases q:CF l with
    | none=>rw[q] at e;cases e
    | some d=>
      rw[q] at e;cases e;obtain⟨b,d,s,m,h⟩:=Is.tup_iff.mp f;obtain⟨l,r1,d,j,r⟩:=aa.cons.mp h;obtain⟨u,r2,f,l,o⟩:=aa.cons.mp r;rw[Is.int_iff.mp j] at d;rw[Is.int_iff.mp l,aa.nil.mp o] at f;rw[p];refine .cons {b,s,?_} (lO q n);rw[m,d,f]
   ·cases e
theorem g9{K:FG}{A:Addr->Prop}{H:Hp}:∀{d:List P2} {f:List V},Eu H f d->aa K A H (d.map Cb) f
 | _,_,.nil=>aa.nil.mpr rfl
 | _,_,.cons h t=>aa.cons.mpr {_,_,rfl,by
   obtain⟨b,e,d⟩:=h;rw[e];exact Is.tup d (aa.cons.mpr {_,_,rfl,Is.int_iff.mpr rfl,aa.cons.mpr {_,_,rfl,Is.int_iff.mpr rfl,aa.nil.mpr rfl}}),g9 t}
theorem fu:∀d:List P2,D.immL (d.map Cb)=true
 | []=>rfl
 | n::ns=>fu ns
def Hk:List D->Option D
 | [.lst l]=>(CF l).bind λps=>if ps.length<128 then some (.lst ((AK ps).map Cb)) else none
 | _=>none
open H in
def xo{K:FG}(e:c.K=K):Cp c (λs H Q=>∃(a:Addr) (j:List V) (h:List P2),s=[.ref a]/\AT K H a j/\Eu H j h/\h.length<128/\∀p f,H p=none->Eu H f (AK h)->Q (.ref p) (Af H p (.lst f))) Hk:=by
 subst e;intro l j H i d Q o z e q;unfold Hk at e;split at e
 ·rename_i m
  cases i:CF m with
  | none=>rw[i] at e;cases e
  | some h=>
    rw[i] at e;have e:(if h.length<128 then some (D.lst ((AK h).map Cb)) else none)=some d:=e;split at e
    ·rename_i d
     cases e;obtain⟨v,r,l,u,n⟩:=aa.cons.mp z;obtain⟨a,v,x,_,r,m⟩:=Is.lst_iff.mp u;rw[aa.nil.mp n,x] at l;exact{a,v,h,l,.of r,lO i m,d,λp f h w=>q _ _ (Ah.laid h) (aY o h) (AE.lst o h (λ_ n=>n) (fu _) (g9 (A:=λb=>¬W.mv b) w))}
    ·cases e
 ·cases e
end
end L2
namespace HT
open PySem PyProof PyProof.Rows
end HT
namespace L2
open PySem PySem.Spec PyProof PyProof.Rows
section
variable{X:Cx}{S:Type}{W:Wd S}{c:Dx W}{g ga gb gc:Gr}{a b:Expr}{fa fb fc:Fn S}{pos p2:Pos}
end
end L2
namespace HT
open PySem PyProof PyProof.Rows Ts
section
variable{prog:Program}{w:World}{A:Around}{R:Result->Shared->Prop}{I:Addr}{fp wr:List Addr}{n:Nat}{P:Nat->Value->Prop}{St:Nat->Heap->Prop}{base:Heap}{E:Value->Shared->Prop}{s:Shared}
def Bq.tup{h:Heap}{v:Value}{p:Int×Int}(z:Bq h v p):∃a b,v=.ref a/\IsTup h a b/\IntsAre b.toList [p.1,p.2]:=by
 obtain⟨a,o,n,t,u,rfl,g,c,d⟩:=z;exact{a,_,rfl,⟨o,g,c,n,d⟩,.cons _ _ (.cons _ _ .nil)}
end
end HT
namespace L2
open PySem PySem.Spec PyProof PyProof.Rows Ts
section
variable{X:Cx}{S:Type}{W:Wd S}{c:Dx W}{g ga gb gc:Gr}{a b:Expr}{fa fb fc:Fn S}{pos p2:Pos}
theorem Ad.two(I:Ad X A0 Y H s)(r:An v u)(h:∃b,v=.ref b/\H b=some (.tup [.int p.1,.int p.2])):Bq s.heap u p:=by
 obtain⟨b,e,i⟩:=h;subst e;cases r;obtain⟨l,f,⟨o,g,j,n,d⟩,_⟩:=I.tuple (AN.of i);cases f with
 | cons l f=>cases f with
   | cons i f=>
     cases f;obtain⟨h,rfl⟩:=l;obtain⟨e,rfl⟩:=i;exact⟨b,o,n,h,e,rfl,g,j,d⟩
end
def g0{α:Type}{a:α}{l:List α}:(a::l)[0]?=some a:=rfl
def gS{α:Type}{a:α}{l:List α}{i:Nat}:(a::l)[i+1]?=l[i]?:=rfl
def s0{α:Type}{a b:α}{l:List α}:(a::l).set 0 b=b::l:=rfl
def sS{α:Type}{a b:α}{l:List α}{i:Nat}:(a::l).set (i+1) b=a::l.set i b:=rfl
def lC{α:Type}{a:α}{l:List α}:(a::l).length=l.length+1:=rfl
def lN{α:Type}:([]:List α).length=0:=rfl
def rl1_{α:Type}{i:Nat}:([]:List α)[i]?=none:=rfl
def rl2_{α β:Type}{f:α->β}{a:α}{l:List α}:(a::l).map f=f a::l.map f:=rfl
def rl3_{α β:Type}{f:α->β}:([]:List α).map f=[]:=rfl
def rl4_{α β:Type}{a:α}{f:α->Option β}:(some a).bind f=f a:=rfl
def rl5_{α:Type}{a:α}{o:Option α}:(some a).or o=some a:=rfl
def rl6_{α:Type}{o:Option α}:(none:Option α).or o=o:=rfl
def rl7_{α:Type}{a:α}:List.replicate 0 a=[]:=rfl
def rl8_{α:Type}{a:α}{n:Nat}:List.replicate (n+1) a=a::List.replicate n a:=rfl
def rl9_{α:Type}{a:α}{l m:List α}:(a::l)++m=a::(l++m):=rfl
def rl0_{α:Type}{l:List α}:[]++l=l:=rfl
def EV_:(type_of% @D.bl.injEq)/\(type_of% @D.int.injEq)/\(type_of% @D.str.injEq)/\(type_of% @Nat.zero_add)/\(type_of% @if_true.{1})/\(type_of% @if_false.{1})/\(type_of% @Bool.and_true)/\(type_of% @Bool.true_and)/\(type_of% @Bool.and_self)/\(type_of% @Bool.false_eq_true)/\(type_of% @Option.some.injEq.{0})/\(type_of% @exists_eq_left'.{1})/\(type_of% @exists_eq_left.{1})/\(type_of% @exists_eq_right.{1})/\(type_of% @true_or)/\(type_of% @or_true)/\(type_of% @true_and)/\(type_of% @and_true)/\(type_of% @Bool.not_true)/\(type_of% @Bool.not_false):=
 {@D.bl.injEq,@D.int.injEq,@D.str.injEq,@Nat.zero_add,@if_true.{1},@if_false.{1},@Bool.and_true,@Bool.true_and,@Bool.and_self,@Bool.false_eq_true,@Option.some.injEq.{0},@exists_eq_left'.{1},@exists_eq_left.{1},@exists_eq_right.{1},@true_or,@or_true,@true_and,@and_true,@Bool.not_true,@Bool.not_false}
section
variable{S:Type}
instance fP(S:Type)(p:Ag->Option D):Fn S:=λZ st=>Az (p Z) st
instance aP(S:Type)(q:Ag->Option (List D)):A5 S:=λZ st=>Az (q Z) st
instance tP(S:Type)(q:Ag->Option Bool):AV S:=λZ st=>Az (q Z) st
instance vr(i:Nat):Ag->Option D:=λZ=>rd Z i
instance cn(d:D):Ag->Option D:=λ_=>some d
instance o2(o:D->D->Option D)(p q:Ag->Option D):Ag->Option D:=λZ=>(p Z).bind λa=>(q Z).bind λb=>o a b
instance nl:Ag->Option (List D):=λ_=>some []
instance cs(p:Ag->Option D)(q:Ag->Option (List D)):Ag->Option (List D):=λZ=>(p Z).bind λa=>(q Z).bind λl=>some (a::l)
instance o1(o:List D->Option D)(q:Ag->Option (List D)):Ag->Option D:=λZ=>(q Z).bind o
instance ti(T:Bt)(p:Ag->Option D):Ag->Option D:=λZ=>(p Z).bind λd=>some (.bl (isI T d))
instance tb(p:Ag->Option D):Ag->Option Bool:=λZ=>(p Z).bind D.bool?
open H in
def lP{o:D->D->Option D}{p q:Ag->Option D}:f2 S o (fP S p) (fP S q)=fP S (o2 o p q):=by
 funext Z st;unfold f2 fP o2;cases p Z with
 | none=>rfl
 | some a=>cases q Z<;>rfl
open H in
def sE{p:Ag->Option D}{q:Ag->Option (List D)}:CD S (fP S p) (aP S q)=aP S (cs p q):=by
 funext Z st;unfold CD fP aP cs;cases p Z with
 | none=>rfl
 | some a=>cases q Z<;>rfl
open H in
def sF{o:List D->Option D}{q:Ag->Option (List D)}:fA S o (aP S q)=fP S (o1 o q):=by
 funext Z st;unfold fA fP aP o1;cases q Z<;>rfl
open H in
def sG{p:Ag->Option D}:fB S (fP S p)=tP S (tb p):=by
 funext Z st;unfold fB fP tP tb;cases p Z<;>rfl
def wp_fP{p:Ag->Option D}{Z:Ag}{a:S}{Q:D->S->Prop}{E:AM->S->Prop}:Ab (fP S p Z a) Q E↔Ab (Az (p Z) a) Q E:=Iff.rfl
def wp_aP{p:Ag->Option (List D)}{Z:Ag}{a:S}{Q:List D->S->Prop}{E:AM->S->Prop}:Ab (aP S p Z a) Q E↔Ab (Az (p Z) a) Q E:=Iff.rfl
def wp_tP{p:Ag->Option Bool}{Z:Ag}{a:S}{Q:Bool->S->Prop}{E:AM->S->Prop}:Ab (tP S p Z a) Q E↔Ab (Az (p Z) a) Q E:=Iff.rfl
def boS{α β:Type}{a:α}{f:α->Option β}:(some a).bind f=f a:=rfl
def dbb{b:Bool}:D.bool? (.bl b)=some b:=rfl
def dw{i j pos}:DE X c g (.Constant (.int i) j pos) (fP S (cn (.int i))):=pC
def xp{x j pos}:DE X c g (.Constant (.str x) j pos) (fP S (cn (.str x))):=pF
def xq{i j pos}:DE X c g (.Constant (.bool i) j pos) (fP S (cn (.bl i))):=pD
def lQ{j pos}:DE X c g (.Constant .none j pos) (fP S (cn .non)):=pE
def bh{i:Nat}{x:Str}{pos:Pos}(h:PE X (.Name x pos) (BA i)):DE X c .R (.Name x pos) (fP S (vr i)):=gj h
def xr{x:Str}{i:Int}{pos:Pos}(d:∃t,X.mg x=some (.int i t))(b:Gl X x)(a:autoParam 'u' uD):DE X c g (.Name x pos) (fP S (cn (.int i))):=rb d b a
def cp:DA X c [] (aP S nl):=pK
def g2_(h:DE X c g e (f2 S o (fP S p) (fP S q))):DE X c g e (fP S (o2 o p q)):=lP▸h
def gA_(h:DE X c g e (fA S oA (aP S qa))):DE X c g e (fP S (o1 oA qa)):=sF▸h
def gC_(h:DA X c es (CD S (fP S p) (aP S qa))):DA X c es (aP S (cs p qa)):=sE▸h
def gB_(h:DT X c e (fB S (fP S p))):DT X c e (tP S (tb p)):=sG▸h
def gT_{e:Expr}(h:DT X c e (fB S (f2 S o (fP S p) (fP S q)))):DT X c e (tP S (tb (o2 o p q))):=gB_ (lP▸h)
end
def sH{S:Type}{F G:Ay S}{Z:Ag}{b:S}{Q:Fl->S->Prop}{E:AM->S->Prop}(h:∀P:Fl->S->Prop,(∀c a,Ab (G c a) Q E->P (.nx c) a)->(∀d a,Q (.rt d) a->P (.rt d) a)->(∀r a,Q (.bk r) a->P (.bk r) a)->(∀r a,Q (.ct r) a->P (.ct r) a)->Ab (F Z b) P E):Ab (FQ S F G Z b) Q E:=
 ax.mpr (h _ (λ_ _ z=>z) (λ_ _ z=>z) (λ_ _ z=>z) (λ_ _ z=>z))
section
variable{X:Cx}{S:Type}{W:Wd S}{c:Dx W}{g:Gr}{e a b:Expr}{es:List Expr}{o:D->D->Option D}{p q:Ag->Option D}{qa:Ag->Option (List D)}{pos:Pos}{f fa fb:Fn S}{rr:A5 S}{ga gb gc:Gr}{fc:Fn S}{p2:Pos}{fk:Fn S}{Z:Ag}{st:S}{Q:D->S->Prop}{E:AM->S->Prop}{out:Str}{fs:List (Fn S)}
def d9{x:Str}(h:DE X c .R (.Name x pos) (fP S p))(d:DA X c es (aP S qa)):DA X c (.Name x pos::es) (aP S (cs p qa)):=gC_ (bj h d)
def xt{x:Str}(h:DE X c .R (.Name x pos) f)(d:DA X c es rr):DA X c (.Name x pos::es) (CD S f rr):=bj h d
def xu{k:Const}{j}(h:DE X c .R (.Constant k j pos) (fP S p))(d:DA X c es (aP S qa)):DA X c (.Constant k j pos::es) (aP S (cs p qa)):=gC_ (bj h d)
def xv{k:Const}{j}(h:DE X c .R (.Constant k j pos) f)(d:DA X c es rr):DA X c (.Constant k j pos::es) (CD S f rr):=bj h d
def sI{a b:Expr}(h:DE X c .R (.Subscript a b pos) (fP S p))(d:DA X c es (aP S qa)):DA X c (.Subscript a b pos::es) (aP S (cs p qa)):=gC_ (bj h d)
def xx{a b:Expr}(h:DE X c .R (.Subscript a b pos) f)(d:DA X c es rr):DA X c (.Subscript a b pos::es) (CD S f rr):=bj h d
def xz{d:List Expr}{x1}(h:DE X c .R (.Tuple d x1 pos) (fP S p))(i:DA X c es (aP S qa)):DA X c (.Tuple d x1 pos::es) (aP S (cs p qa)):=gC_ (bj h i)
def xA{a:Expr}{i:List Expr}{d}(h:DE X c .R (.Call a i d pos) (fP S p))(j:DA X c es (aP S qa)):DA X c (.Call a i d pos::es) (aP S (cs p qa)):=gC_ (bj h j)
def xB{a:Expr}{i:List Expr}{d}(h:DE X c .R (.Call a i d pos) f)(j:DA X c es rr):DA X c (.Call a i d pos::es) (CD S f rr):=bj h j
def xC{a b:Expr}{op}(h:DE X c .R (.BinOp a op b pos) (fP S p))(d:DA X c es (aP S qa)):DA X c (.BinOp a op b pos::es) (aP S (cs p qa)):=gC_ (bj h d)
def xD{a b:Expr}{op}(h:DE X c .R (.BinOp a op b pos) f)(d:DA X c es rr):DA X c (.BinOp a op b pos::es) (CD S f rr):=bj h d
def xE{a:Expr}{op}(h:DE X c .R (.UnaryOp op a pos) f)(d:DA X c es rr):DA X c (.UnaryOp op a pos::es) (CD S f rr):=bj h d
def sJ{a:Expr}{gs scope}(h:DE X c .R (.ListComp a gs scope pos) f)(d:DA X c es rr):DA X c (.ListComp a gs scope pos::es) (CD S f rr):=bj h d
def xF{a:Expr}{ops bs}(h:DE X c .R (.Compare a ops bs pos) (fP S p))(d:DA X c es (aP S qa)):DA X c (.Compare a ops bs pos::es) (aP S (cs p qa)):=gC_ (bj h d)
def xG{a:Expr}{ops bs}(h:DE X c .R (.Compare a ops bs pos) f)(d:DA X c es rr):DA X c (.Compare a ops bs pos::es) (CD S f rr):=bj h d
def gU_{x1}(h:DA X c es (aP S qa)):DE X c g (.Tuple es x1 pos) (fP S (o1 A6 qa)):=gA_ (pN h)
def gL_(h:DA X c es (aP S qa)):DE X c g (.List es pos) (fP S (o1 B6 qa)):=gA_ (pO h)
def gX_(h:c.K=X.K)(i:DE X c .R a (fP S p))(j:DE X c .R b (fP S q))(d:Gd b):DE X c g (.Subscript a b pos) (fP S (o2 Au p q)):=g2_ (gk f9 (jQ h) i j d)
def gY_(h:c.K=X.K)(i:DE X c .R a fa)(j:DE X c .R b fb)(d:Gd b):DE X c g (.Subscript a b pos) (f2 S Au fa fb):=gk f9 (jQ h) i j d
def gP_(h:c.K=X.K)(d:DE X c .R a (fP S p))(i:DE X c .R b (fP S q)):DE X c g (.BinOp a .Add b pos) (fP S (o2 AJ p q)):=g2_ (jA kB (kC h) d i)
def gp_(h:c.K=X.K)(d:DE X c .R a fa)(i:DE X c .R b fb):DE X c g (.BinOp a .Add b pos) (f2 S AJ fa fb):=jA kB (kC h) d i
end
open PySem PySem.Spec PyProof PyProof.Rows
section
variable{S:Type}{i j:Nat}{Z:Ag}{st:S}{Q:Fl->S->Prop}{E:AM->S->Prop}
def Hl(S:Type)(i j:Nat):Ay S:=λZ st=>match AF Z j with
 | some l=>match l.getLast? with
   | some d=>(Az (put (Z.set j (.own (.lst l.dropLast))) i d) st).bind λZ' st2=>.ok (.nx Z') st2
   | none=>.bad
 | none=>.bad
def aa.dropLast{K:FG}{A:Addr->Prop}{H:Hp}{l:List D}{a:List V}(h:aa K A H l a):aa K A H l.dropLast a.dropLast:=by
 rw[List.dropLast_eq_take,List.dropLast_eq_take,h.length];exact h.take _
theorem dz:∀{l:List D} {d:D},D.immL l=true->d∈l->d.imm=true
 | [],_,_,h=>nomatch h
 | a::l,d,m,h=>by
   have b:a.imm=true/\D.immL l=true:=by simpa [D.immL] using m
   rcases AL.mp h with e | h
   ·rw[e];exact b.1
   ·exact dz b.2 h
def xH{x y:Str}(h:X.N.Nodup)(C:X.N[i]?=some y)(e:Loc X.env.scope y)(g:PE X (.Name x p1) (BA j))(a:autoParam (attributeBase (.Name x p1) "pop" X.env (eval (.Name x p1) X.env)=eval (.Name x p1) X.env) uR)(b:autoParam ((p2.endLine == p3.line)=true) uR)(f:autoParam (swapsWith (.Call (.Attribute (.Name x p1) "pop" p2) [] [] p3) (some (.Name y p4)) pos.line X.env=pure false) uR)(d:autoParam (X.fn y=true\/X.env.scope.names.lookup y=some .local) z0a._auto_1) :
 DS X c (.Assign [.Name y p4] (.Call (.Attribute (.Name x p1) "pop" p2) [] [] p3) pos) (Hl S i j):=
 (bB h C e (oO PySem.F.plainAttrs_list PySem.F.slot_list_pop PySem.F.type_list_pop oQ g a b) f d).imp λD Y H hI46=>by
  obtain⟨Z,st,R,y,w⟩:=hI46;unfold Hl at w;cases q:AF Z j with
  | none=>rw[q] at w;exact w.elim
  | some l=>
    rw[q] at w;cases e:l.getLast? with
    | none=>simp only[e] at w;exact w.elim
    | some d=>
      simp only[e] at w;obtain⟨a,G,w⟩:=au.mp (ae.mp w);obtain⟨a,g,r,m,z,x⟩:=R.lstAt q;obtain⟨es,im⟩:=cG q;have b:l[l.length-1]?=some d:=by rw[<-List.getLast?_eq_getElem?];exact e
      obtain⟨v,p,F⟩:=z.get b;rw[z.length] at p;obtain⟨A,B⟩:=R.wr (d':=.lst l.dropLast) (o:=.lst g.dropLast) es r {(λu z=>by cases z),(λf u z=>by cases z)} λk=>{g.dropLast,aw,aa.mono k z.dropLast}
      have n:d.imm=true:=dz im (List.mem_of_getLast? e);have q:∀b o,H b=some o->DL o->Af H a (.lst g.dropLast) b=some o:=λb o h s=>by
       by_cases e:b=a
       ·subst e;rw[m] at h;cases h;rcases s with⟨u,e⟩ | ⟨f,u,e⟩<;>cases e
       ·rw[aj e];exact h
      have s:AW (λ_=>False) (λ_=>False) H (Af H a (.lst g.dropLast)):={q,λ_ _ f=>False.elim f};have b:Is c.K (λ_=>False) (Af H a (.lst g.dropLast)) d v:=Is.mono s (Is.ofImm n F);obtain⟨e,rfl⟩:=bL G;have R2:=A.setB e (show Is c.K (Av c Y (Z.set j (.own (.lst l.dropLast)))) (Af H a (.lst g.dropLast)) d v from Is.ofImm n b);exact{.ref a,r,.inl {rfl,g,.of m},a,g,v,rfl,rfl,m,p,w _ _ (B.trans bf) (bv y x m) R2}
def sK:Ab (Hl S i j Z st) Q E↔∃l d a,AF Z j=some l/\l.getLast?=some d/\put (Z.set j (.own (.lst l.dropLast))) i d=some a/\Q (.nx a) st:=by
 unfold Hl;cases q:AF Z j with
 | none=>exact{λh=>h.elim,λ⟨l,d,a,e,_⟩=>by cases e}
 | some l=>
   cases b:l.getLast? with
   | none=>simp only[b];exact{λh=>h.elim,λ⟨f,d,a,e,c,_⟩=>by cases e;rw[b] at c;cases c}
   | some d=>
     simp only[b];rw[ae,au];constructor
     ·rintro ⟨a,e,h⟩;exact⟨l,d,a,rfl,b,e,h⟩
     ·rintro ⟨f,d',a,e,c,d,h⟩
      cases e;rw[b] at c;cases c;exact⟨a,d,h⟩
end
def Ky(tk tv:TE):TE:=λY H Q=>∀p,H p=none->Gf [(tk,tv)] Y (Af H p (.dT [])) λps H2=>∃ks b y,ps=[(.ref b,y)]/\Cg H2 b ks/\H2 p=some (.dT [])/\Q (.ref p) (Af H2 p (.dT [(ks,y)]))
def sL(c:X.A.units+2<cLine)(b:PE X k tk)(e:PE X v tv):PE X (.Dict [some k] [v] pos) (Ky tk tv):=by
 intro c s Y H Q I q;have d:=I.hok.fresh (Al s.heap.objs.size);have I1:=I.laid (a:=s.heap.objs.size) (o:=.dT []) (h':=s.heap.push { cls:=.type "dict",data:=.dict #[] }) (t':=s.toks) (λ_ _ q=>AH _ q) (Al _) (gh s.heap I.big);refine wpAny_Dict_any rfl rfl 'd' (show (1:Nat)<=15 by decide) (ag (eH b e gi c _ Y _ _ I1 (q _ d)) λc b hI126=>?_);obtain⟨e,H2,I2,c,l,b,y,d,g,f,q2⟩:=hI126;subst d;cases c with
 | @cons a0 h i j d e=>
   cases e;obtain⟨u,r⟩:=h;obtain⟨j,p⟩:=d;cases (show u=Value.ref b from j);obtain⟨z,i,d,c,e⟩:=eG I2.hok f;cases c;have d:storeAll s.heap.objs.size [(Value.ref b,r)]=(do dictSet s.heap.objs.size (.ref b) r;pure PUnit.unit):=by
    unfold storeAll;simp only[List.forIn_cons,List.forIn_nil,bind_assoc,pure_bind]
   rw[d];refine Ac (wpAny_dictSet_heap (knd:=D1 X.prog X.w) (show X.A.units+1<cLine by omega) (bS I2.hok g) e λh' d u=>Aj {.ref s.heap.objs.size,_,?_,rfl,q2});obtain⟨h,es,c,e,j,q,m,_,n⟩:=d;refine de I2 (by rw[f];exact True.intro) u ⟨h,e⟩ {by show 1<=sizeLine;decide,i,[(l,b,r)],.cons {rfl,?_,p} .nil,h,es,c,e,j,q,m,n};exact g.keeps λc b e=>by rw[aj (bQ e f (λz=>nomatch z))];exact e
section
variable{X:Cx}{S:Type}{W:Wd S}{c:Dx W}{g:Gr}
def JC(S:Type)(fk fv:Fn S):Fn S:=λZ st=>(fk Z st).bind λdk st1=>(fv Z st1).bind λdv st2=>match AG dk with
 | some kk=>if dv.imm=true then .ok (.dct [.non,AC kk] [dv]) st2 else .bad
 | none=>.bad
def xI(hu:X.A.units+2<cLine)(P:DE X c .R k fk)(hv:DE X c .R v fv):DE X c g (.Dict [some k] [v] pos) (JC S fk fv):=
 (sL hu P hv).imp λY H Q hI47=>by
  obtain⟨Z,st,R,z,w⟩:=hI47;intro p a;have B:¬W.mv p:=bH z a;refine{Z,st,R.ext z (Ah.laid a),aY z a,ak (ae.mp w) (λJ n q x H1 m d z1=>?_) λx n q H1 m d=>q H1 ((Ah.laid a).trans m) d};refine{Z,n,(R.ext z (Ah.laid a)).ext (aY z a) m,d,ak (ae.mp q) (λG I q y H2 r i T=>?_) λx I q H2 r i=>q H2 (((Ah.laid a).trans m).trans r) i};cases F:AG J with
  | none=>simp only[F] at q;exact q.elim
  | some l=>
    simp only[F] at q;by_cases im:G.imm=true
    ·rw[if_pos im] at q
     have zk:Is c.K 'w' H2 J x:=(show BH c .R Y Z _ H1 J x from z1).ext r d;obtain⟨b,eb,C,_⟩:=dh F zk;have E:=m p _ (aw (H:=H) (o:=.dT [])) B;have j:H2 p=some (.dT []):=r p _ E B;have N:Ah W H (Af H2 p (.dT [(l,y)])):=λb o C L=>by
      have M:b≠p:=aF C a;rw[aj M];exact r b o (m b o (by rw[aj M];exact C) L) L
     have O:∀b o,H2 b=some o->DL o->Af H2 p (.dT [(l,y)]) b=some o:=λb o h s=>by
      by_cases e:b=p
      ·subst e;rw[j] at h;cases h;rcases s with⟨u,e⟩ | ⟨ob,u,e⟩<;>cases e
      ·rw[aj e];exact h
     have U:AW (λ_=>False) (λ_=>False) H2 (Af H2 p (.dT [(l,y)])):={O,λ_ _ f=>False.elim f};have zy:Is c.K (λ_=>False) (Af H2 p (.dT [(l,y)])) G y:=Is.mono U (Is.ofImm im (show Is c.K 'w' H2 G y from T));refine{l,b,y,by rw[eb],C,j,q _ _ N (bv i B j) (AE.val R (Is.dct_iff.mpr {p,[y],rfl,⟨B,a⟩,aa.one (Is.ofImm im zy),.inr {[l],rfl,rfl,aw}}) g)}
    ·rw[if_neg im] at q;exact q.elim
def sM{a d:Fn S}{Z:Ag}{i:S}{Q:D->S->Prop}{E:AM->S->Prop}:Ab (JC S a d Z i) Q E↔Ab (a Z i) (λf e=>Ab (d Z e) (λb a=>∃d,AG f=some d/\b.imm=true/\Q (.dct [.non,AC d] [b]) a) E) E:=aQ λf e=>aQ λb a=>by
 cases e:AG f with
 | none=>exact{λh=>h.elim,λ⟨d,e,_⟩=>by cases e}
 | some d=>
   show Ab (if b.imm=true then Ap.ok (D.dct [.non,AC d] [b]) a else .bad) Q E↔_;by_cases im:b.imm=true
   ·rw[if_pos im];exact{λh=>⟨d,rfl,im,h⟩,λ⟨k',e,_,h⟩=>by cases e;exact h}
   ·rw[if_neg im];exact{λh=>h.elim,λ⟨k',e,h,_⟩=>absurd h im}
end
abbrev BN(es:Array DictEntry)(ep:Nat):Obj:={ cls:=.type "dict",dict:=none,data:=.dict es ep,slots:=#[] }
abbrev E8(d:Addr)(i n ep:Nat):Obj:={ cls:=.type "dict_keyiterator",dict:=none,data:=.fields #[.ref d,.int i 0,.int n 0,.int ep 0],slots:=#[] }
def sN(a d:Addr)(i n b:Nat)(es:Array DictEntry)(e:DictEntry)(f:es.size=n)(c:es[i]?=some e) :
 Meets (Builtin.«dict_keyiterator.__next__» {[.ref a],[]}) (λ_ R s=>s.heap.get? a=some (E8 d i n b)/\s.heap.get? d=some (BN es b)/\R (.ok (.ret e.key)) { s with heap:=s.heap.update a (Obj.mapFields λx=>x.setIfInBounds 1 (rawInt ((i:Int)+1))),toks:=s.toks }):=
 .of_wp λprog w A R s h=>by
  obtain⟨b,g,j,a,d⟩:=s;obtain⟨f,b,h⟩:=h;wp_walk;have a:(if ((i:Nat):Int)<0 then none else es[((i:Nat):Int).toNat]?)=some e:=by rw[if_neg 'o',CH,c]
  simp only[a]
  wp_walk
  exact{_,rfl,h}
def sO(e d:Addr)(n b:Nat)(es:Array DictEntry)(a:es.size=n)(f:A.handled=none)(a:s.heap.get? e=some (E8 d n n b))(a:s.heap.get? d=some (BN es b))(h:∀a c d,(∀b o,b≠e->s.heap.get? b=some o->c.get? b=some o)->(∃o,c.get? a=some o/\o.cls=.type "StopIteration")->E (.ref a) { s with heap:=c,toks:=d }) :
 wpAny 'r' A (Builtin.«dict_keyiterator.__next__» {[.ref e],[]}) R E s:=by
 obtain⟨a,g,e,d,c⟩:=s;wp_walk;have a:(if ((n:Nat):Int)<0 then none else es[((n:Nat):Int).toNat]?)=none:=by rw[if_neg 'o',CH,GT 'o']
 simp only[a]
 wp_walk
 unfold raiseNew;refine Ac (wpAny_handled ?_);rw[f];refine Ac (Aj (wpAny_throw (h _ _ _ (λb o a e=>?_) {_,AZ _ rfl,rfl})));exact AH _ (AH _ ((F5 _ _ (Ne.symm a)).trans e))
def sP(d:Addr)(es:Array DictEntry)(a:Nat)(b:(d == sysModules)=false) :
 Meets (Builtin.«dict.__iter__» {[.ref d],[]}) (λ_ R s=>s.heap.get? d=some (BN es a)/\R (.ok (.ret (.ref s.heap.objs.size))) { s with heap:=s.heap.push (E8 d 0 es.size a),toks:=s.toks }):=
 .of_wp λprog w A R s h=>by
  obtain⟨a,g,d,b,c⟩:=s;obtain⟨a,h⟩:=h;wp_walk;exact{_,rfl,h}
open H in
def sQ{i n a:Nat}(l:es.size=n)(m:es[i]?=some e)(f:s.heap.get? it=some (E8 d i n a))(j:s.heap.get? d=some (BN es a))(h:∀c g,c.get? it=some (E8 d (i+1) n a)->(∀b o,b≠it->s.heap.get? b=some o->c.get? b=some o)->Q (some e.key) { s with heap:=c,toks:=g }):wpAny 'r' A (pyNext (.ref it)) Q E s:=by
 have g:s.TypeIs (.ref it) "dict_keyiterator":={_,f,rfl};have c:=GV (Obj.mapFields λx=>x.setIfInBounds 1 (rawInt ((i:Int)+1))) f rfl;unfold pyNext;exact Ac (wpAny_attempt (wpAny_callSpecial?_slot (name:=Str.ofString "__next__") g F.slot_dict_keyiterator_next (call_meets F.slot_dict_keyiterator_next g F.entry_dict_keyiterator_next (F.args_dict_keyiterator_next_1 _) (sN it d i n a es e l m)
  {f,j,Aj (h _ _ c λb o a g=>(F5 _ _ (Ne.symm a)).trans g)})))
open H in
def sR{n a:Nat}(j:A.handled=none)(l:es.size=n)(f:s.heap.get? it=some (E8 d n n a))(i:s.heap.get? d=some (BN es a))(h:∀c e,(∀b o,b≠it->s.heap.get? b=some o->c.get? b=some o)->Q none { s with heap:=c,toks:=e }):wpAny 'r' A (pyNext (.ref it)) Q E s:=by
 have g:s.TypeIs (.ref it) "dict_keyiterator":={_,f,rfl};unfold pyNext;refine Ac (wpAny_attempt (wpAny_callSpecial?_slot (name:=Str.ofString "__next__") g F.slot_dict_keyiterator_next (C3 F.slot_dict_keyiterator_next g F.entry_dict_keyiterator_next (sO it d n a es l (A:=A.in1) j f i λa c e d g=>?_) (F.args_dict_keyiterator_next_1 _))));exact Ac (wpAny_isInstance (T:="StopIteration") (b:=true) g isSubtype_stop (Aj (h _ _ d)))
def sT{a:Nat}(e:(d == sysModules)=false)(c:s.heap.get? d=some (BN es a))(h:Q (.ref s.heap.objs.size) { s with heap:=s.heap.push (E8 d 0 es.size a) }):wpAny 'r' A (pyIter (.ref d)) Q E s:=by
 have b:s.TypeIs (.ref d) "dict":={_,c,rfl};exact wpAny_pyIter_slot b F.slot_dict_iter (call_meets F.slot_dict_iter b F.entry_dict_iter (F.args_dict_iter_1 _) (sP d es a e) {c,"dict_keyiterator",_,{_,AZ _ rfl,rfl},F.slot_dict_keyiterator_next.lookup,h})
def sU(m:A.handled=none)(a d:Addr)(j:d≠a)(es:Array DictEntry)(f:Nat) :
 Walks prog w A a [a,d] [a] es.size (λi v=>∃e,es[i]?=some e/\v=e.key) (λi h=>h.get? a=some (E8 d i es.size f)/\h.get? d=some (BN es f)) where
 sub:=λb c=>by simp at c;simp[c]
 frame:=λ_ _ _ f c=>{c a 'd' _ f.1,c d 'd' _ f.2}
 item:=λi s Q E c f g=>sQ rfl (Eg c) f.1 f.2 λh l a b=>g _ h l {_,Eg c,rfl} {a,b d _ j f.2} λc o a e=>b c o (λz=>a (by simp[z])) e
 done:=λs Q E f g=>sR m rfl f.1 f.2 λh l b=>g h l λc o a e=>b c o (λz=>a (by simp[z])) e
 self:=λi s Q E f g=>wpAny_pyIter_keyiter {_,f.1,rfl,rfl} g
def sV(f:(d == sysModules)=false)(es:Array DictEntry)(c:Nat):PySem.W.KdlSrc prog w "dict" d d es.size (λi v=>∃e,es[i]?=some e/\v=e.key) (λh=>h.get? d=some (BN es c)) where
 type:=λ_ a=>{_,a,rfl}
 there:=λ_ a=>{Heap.lt_size a,Heap.lt_size a}
 keep:=λ_ _ a b=>b d (.inl rfl) _ a
 notList:=by decide
 notTuple:=by decide
 hint:=λ_ _ _ _ a b=>PySem.W.kdl_hint_dict {_,a,rfl} b
 iter:=λ_ _ e a=>{_,_,(λ_ _ b=>sT f a b),sU e _ d (Bf (Heap.lt_size a)) es c,{AZ _ rfl,AH _ a}}
def sW{n:Nat}(o1:h.get? a=some (seqObj "list" b.toArray n)):∃m,(sortedHeap h a b out).get? a=some (seqObj "list" out m):=by
 have c:a<h.objs.size:=Heap.lt_size o1;have o2:=get?_update_seq o1 (λ_=>(#[]:Array Value));unfold sortedHeap;have c:(((h.update a (Obj.mapSeq λ_=>#[])).push (seqObj "tuple" b.toArray 0)).push (seqObj "list" #[] 0)).get? a=_:=AH _ (AH _ o2);exact{_,get?_update_seq c (λ_=>out)}
def sX(c:b≠a)(g:h.get? b=some o):(sortedHeap h a d out).get? b=some o:=by
 unfold sortedHeap;rw[Heap.get?_update_ne _ _ _ _ c];exact AH _ (AH _ (by rw[Heap.get?_update_ne _ _ _ _ c];exact g))
def sY{c:Nat}(j:A.handled=none)(g:(d == sysModules)=false)(i:s.heap.get? d=some (BN es c))(r:∀e∈es.toList,∃p,Bq s.heap e.key p)(l:es.size<128)(h:∀(p:Addr) (a f:Heap) (q n:Nat) (out:Array Value),(∀b o,s.heap.get? b=some o->a.get? b=some o)->a.objs.size<=p->(∀b o,a.get? b=some o->f.get? b=some o)->f.get? p=some (seqObj "list" out n)->out.toList.Perm (es.toList.map (·.key))->out.toList.Pairwise (λx y=>lxle (BM s.heap x) (BM s.heap y))->Q (.ref p) { s with heap:=f,toks:=q }) :
 wpAny 'r' A (call (.builtin "sorted") [.ref d]) Q E s:=by
 refine Calls.call_function_entry kind_sorted plain_sorted entry_sorted (args_sorted1 _) ?_;unfold Builtin.«sorted»;refine Ac (m:=checkCount "sorted" 1 1 _) (Aj (Ac (PySem.W.kdu_collect (A:=A.in1) (sV g es c) j i (by rw[sizeLine_eq];omega) λf q c B a=>?_)));have g:c.toList=es.toList.map (·.key):=by
  apply List.ext_getElem?;intro j;rw[AX,FC,FC];by_cases c:j<es.size
  ·obtain⟨e,n,r⟩:=a.2 j _ (Eg (by rw[a.1];exact c))
   rw[Eg (by rw[a.1];exact c),r,n];rfl
  ·rw[GT (by rw[a.1];omega),GT 'o'];rfl
 rw[g];have a:(es.toList.map (·.key)).length=es.size:=by simp
 refine Ac (wpAny_newList ?_ (by rw[a,sizeLine_eq];omega));show wpAny _ _ _ _ _ { s with heap:=f.push (seqObj "list" (es.toList.map (·.key)).toArray 0),toks:=q };have o1:(f.push (seqObj "list" (es.toList.map (·.key)).toArray 0)).get? f.objs.size=some (seqObj "list" (es.toList.map (·.key)).toArray 0):=AZ _ rfl;have j:∀b o,f.get? b=some o->(f.push (seqObj "list" (es.toList.map (·.key)).toArray 0)).get? b=some o:=λb o g=>AH _ g
 generalize c:f.push (seqObj "list" (es.toList.map (·.key)).toArray 0)=H1 at o1 j ⊢;have i:∀v p,Bq s.heap v p->Bq H1 v p:=λv p z=>by
  obtain⟨b,o,m,t,u,rfl,g,c,d⟩:=z;exact{b,o,m,t,u,rfl,j _ _ (B _ _ g),c,d}
 have two:∀v∈es.toList.map (·.key),∃p,Bq s.heap v p:=λv m=>by
  obtain⟨e,n,rfl⟩:=Cv.mp m;exact r e n
 have d:∀v∈es.toList.map (·.key),BM H1 v=BM s.heap v:=λv m=>by
  obtain⟨p,z⟩:=two v m;unfold BM;rw[z.key,(i _ _ z).key]
 refine Ac (wpAny_holding (C3 slot_list_sort {_,o1,rfl} entry_list_sort (lI (s:={ s with heap:=H1,toks:=q }) o1 (λv m=>(two v m).imp λp z=>i v p z) (by rw[a];exact l) λout c i=>{_,rfl,Aj {_,rfl,?_}}) (args_list_sort _)));obtain⟨m,a⟩:=sW (out:=out) o1;refine h _ f _ _ m out B (Al _) (λb o g=>sX (λe=>?_) (j b o g)) a c (i.imp_of_mem λ{x y} b a q=>by
  rw[<-d x (c.mem_iff.mp b),<-d y (c.mem_iff.mp a)];exact q)
 exact absurd (Heap.lt_size g) (by rw[e];exact CJ _)
theorem Cg.two{x y:Int}(h:Cg H b [.inl x,.inl y]):H b=some (.tup [.int x,.int y]):=by
 obtain⟨a,e,p⟩:=h;cases p with
 | cons a p=>cases p with
   | cons c p=>
     cases p;rw[e,show _=V.int x from a,show _=V.int y from c]
section
variable{X:Cx}{S:Type}{W:Wd S}{c:Dx W}
instance PrK:List (List Ak×V)->List P2->Prop:=Paired λkv p=>kv.1=[.inl p.1,.inl p.2]
def xJ(L:X.calm=true):CA X (.builtin "sorted") (λl H Q=>∃(a:Addr) (f:List (List Ak×V)) (i:List P2),l=[.ref a]/\H a=some (.dT f)/\PrK f i/\i.length<128/\∀p j,H p=none->Eu H j (AK i)->Q (.ref p) (Af H p (.lst j))):=by
 intro G s Y H l b Q I r h;obtain⟨a,f,i,rfl,e,A,b,q⟩:=h;obtain⟨u,rfl,r1⟩:=bE r;cases r1;obtain⟨z,R,l,h,o,es,d,g,r,b,M,m⟩:=(show Bx X.prog X.w H s.heap a (.dT f) from I.hok a _ e);have n:o=BN es d:=by
  obtain⟨F,m,v,x⟩:=o;obtain⟨d,e,m⟩:=r;simp only at d e m b;subst d e m b;rfl
 subst n;have e:∀{f:List (List Ak×V)} {l:List (List Ak×Addr×Value)} {i:List P2},Paired (λ(p:List Ak×V) (q:List Ak×Addr×Value)=>p.1=q.1/\Cg H q.2.1 p.1/\An p.2 q.2.2) f l->PrK f i->
  Paired (λv u=>An v u/\∃p,(∃b,v=.ref b/\H b=some (.tup [.int p.1,.int p.2]))/\Bq s.heap u p) (l.map λx=>V.ref x.2.1) (l.map λx=>Value.ref x.2.1)/\(l.map λx=>Value.ref x.2.1).map (BM s.heap)=i:=by
  intro f l i h;induction h generalizing i with
  | nil=>intro A;cases A;exact{.nil,rfl}
  | @cons p x _ _ r _ C=>
    intro A;cases A with
    | @cons _ E _ _ y A=>
      obtain⟨P,N⟩:=C A;obtain⟨d,m,_⟩:=r;rw[show p.1=_ from y] at m
      replace m:=m.two
      obtain⟨J,B,⟨o,g,F,n,d⟩,_⟩:=I.tuple (AN.of (show H x.2.1=some (.tup [.int E.1,.int E.2]) from m));cases B with
      | cons Q B=>cases B with
        | cons J B=>
          cases B;obtain⟨O,rfl⟩:=Q;obtain⟨T,rfl⟩:=J;have B:Bq s.heap (.ref x.2.1) E:=⟨x.2.1,o,n,O,T,rfl,g,F,d⟩;refine{.cons {rfl,E,⟨x.2.1,rfl,m⟩,B} P,?_};rw[Be,Be,N];unfold BM;rw[B.key];rfl
 obtain⟨F,J⟩:=e h A;have E:∀{m:List V} {d:List Value},Paired (λv u=>An v u/\∃p,(∃b,v=.ref b/\H b=some (.tup [.int p.1,.int p.2]))/\Bq s.heap u p) m d->(∀v∈d,∃p,Bq s.heap v p)/\Ao m d/\Eu H m (d.map (BM s.heap)):=by
  intro m d z;induction z with
  | nil=>exact{λv m=>absurd m 'd',.nil,.nil}
  | cons y _ C=>
    obtain⟨r1,p,z,B⟩:=y;refine{λv m=>?_,.cons r1 C.2.1,.cons ?_ C.2.2}
    ·rcases AL.mp m with rfl | m
     ·exact⟨p,B⟩
     ·exact C.1 v m
    ·unfold BM;rw[B.key];exact z
 have b:es.toList.map (·.key)=l.map λx=>Value.ref x.2.1:=by rw[M,Cf];rfl
 have d:es.size=i.length:=by
  have r:=congrArg List.length b;rw[Ai,Ai,Dz] at r;rw[r,<-Paired.length h,Paired.length A]
 refine sY (I.ok.hd L) R g (λe z=>?_) 'o' λp r g m n d B u x y g v=>?_
 ·exact(E F).1 _ (by rw[<-b];exact Cv.mpr ⟨e,z,rfl⟩)
 ·rw[b] at g
  obtain⟨j,pv,e⟩:=lJ g F;have b:d.toList.map (BM s.heap)=AK i:=lM (by rw[<-J];exact g.map _) (by rw[F9];exact v);obtain⟨_,r2,g⟩:=E e;rw[b] at g;have I1:Ad X G Y H { s with heap:=r,toks:=m }:=I.kept B;have b:j.length<=127:=by
   have r:=pv.length_eq;rw[Ai,<-Paired.length h,Paired.length A] at r;omega
  exact{.ref p,_,I1.laid (t':=m) (a:=p) (o:=.lst j) x u {Bw (eF 'o'),d.toList,n,r2,y},rfl,q _ _ (I1.hok.fresh u) g}
def Hm:List D->Option D
 | [.dct (.non::ks) _]=>(CF ks).bind λps=>if ps.length<128 then some (.lst ((AK ps).map Cb)) else none
 | _=>none
open H in
theorem lR:∀{f:List (List Ak)} {g:List P2} {i:List V},CF (f.map AC)=some g->f.length=i.length->PrK (f.zip i) g
 | [],g,i,e,_=>by cases e;exact .nil
 | k::f,g,[],_,h=>by cases h
 | k::f,g,v::i,e,h=>by
   rw[Be] at e;unfold CF at e;split at e
   ·rename_i j;cases j
   ·rename_i x y m j
    injection j with he1 he2
    subst he2;cases q:CF (f.map AC) with
    | none=>rw[q] at e;cases e
    | some o=>
      rw[q] at e;cases e;refine .cons ?_ (lR q (by simpa using h));unfold AC at he1;injection he1 with he1
      cases k with
      | nil=>cases he1
      | cons a k=>cases k with
        | nil=>simp at he1
        | cons b k=>cases k with
          | nil=>
            simp only[Be,Da,List.cons.injEq,and_true] at he1;obtain⟨l,n⟩:=he1;cases a<;>cases b<;>simp[E4] at l n;subst l n;rfl
          | cons d k=>simp at he1
   ·cases e
open H in
def xK:Cp c (λs H Q=>∃(a:Addr) (g:List (List Ak×V)) (b:List P2),s=[.ref a]/\H a=some (.dT g)/\PrK g b/\b.length<128/\∀p f,H p=none->Eu H f (AK b)->Q (.ref p) (Af H p (.lst f))) Hm:=by
 intro l h H i d Q m z e q;unfold Hm at e;split at e
 ·rename_i h i
  cases j:CF h with
  | none=>rw[j] at e;cases e
  | some b=>
    rw[j] at e;have e:(if b.length<128 then some (D.lst ((AK b).map Cb)) else none)=some d:=e;split at e
    ·rename_i h
     cases e;obtain⟨v,r,l,i,d⟩:=aa.cons.mp z;obtain⟨a,u,o,_,r,n⟩:=Is.dct_iff.mp i;rw[aa.nil.mp d,o] at l;rcases n with⟨i,d,_,_⟩ | ⟨i,d,n,o⟩
     ·cases i with
      | nil=>cases d
      | cons k i=>cases k<;>cases d
     ·injection d with _ d
      subst d;exact{a,_,b,l,o,lR j n,h,λp f a w=>q _ _ (Ah.laid a) (aY m a) (AE.lst m a (λ_ n=>n) (fu _) (g9 (A:=λb=>¬W.mv b) w))}
    ·cases e
 ·cases e
end
def JD(h:Heap)(x T:Addr)(C:Value):Prop:=
 ∃(oe:Obj) (vs:Array Value) (a0:Value) (oT:Obj) (ts:Array Value),h.get? x=some oe/\oe.cls=C/\vs[0]?=some a0/\oe.data=.fields vs/\vs[1]?=some (.ref T)/\T≠x/\
  h.get? T=some oT/\oT.data=.fields ts/\ts[3]?=some .none
def JD.of(t:h.TracedW B x C a0):∃T,B.get? T=none/\JD h x T C:=by
 obtain⟨l,c,T,j,e,h,⟨f,n⟩,g,m,o,a,i,d,b⟩:=t;exact⟨T,o,l,c,a0,j,e,h,f,n,g,m,a,i,d,b⟩
section
variable{X:Cx}{A0:List 'p'}{Y:St}{H:Hp}{s:Shared}{h':Heap}{k:Nat}{x:Str}{prog:Program}{w:World}{A:Around}{E:Value->Shared->Prop}{h:Heap}{g:Array GenState}{d:Drawn}{t:Nat}{os:OsState}{a C:Addr}{o:Obj}{K:FG}{n:Str}{P:Program}{mg:Str->Option Value}{base:Heap}{p:Addr×Obj}
end
open PySem.SeqAt
section
variable{S:Type}{prog:Program}{w:World}{A:Around}{E:Value->Shared->Prop}{h:Heap}{g:Array GenState}{d:Drawn}{t:Nat}{os:OsState}{nm q:Str}{C N f:Addr}{bs bm bmB:List Value}{hd:Bool}{sn:List Str}{sub:List Value}{ab:Bool}{col:Option Bool}{dd:Option Addr}{k0 k1 k2 k3 k5:Option Value}{B newId initId:String}{a dx:Addr}{o:Obj}{K:FG}{X:Cx}{A0:List 'p'}{Y:St}{H H':Hp}{s:Shared}{e:Addr}{h':Heap}
end
section
variable{B nm q:Str}{hd ab:Bool}{X:Cx}{A0:List 'p'}{Y:St}{H:Hp}{s:Shared}{e C dx:Addr}{o:Obj}{i j:Nat}{x y name:Str}{v:V}{N:Addr}{bs bm:List Value}{sn:List Str}{sub:List Value}{col:Option Bool}{dd:Option Addr}{k0 k1 k2 k3 k5:Option Value}{id1:String}
end
section
variable{M:Model}{A:Around}{E:Value->Shared->Prop}{s:Shared}{x T Lv0:Addr}{C v c fl:Value}{od:Option Addr}{env:Env}{outer:List Env}{base:Heap}{Q:Unit->Shared->Prop}
end
section
variable{k:Nat}{x n:Str}{S:Type}{P:Program}{w:World}{K:FG}{mg:Str->Option Value}{base:Heap}{C C0 f:Addr}{st:Stmt}{fd:FuncData}{nm q qual:Str}{M:Addr}{bs bm:List Value}{sn:List Str}{sub:List Value}{ab:Bool}{col:Option Bool}{dd:Option Addr}{k0 k1 k2 k3 k5:Option Value}{x1 x2:Str}{j1 j2:Nat}{pB pA pc pe p1 p2 p3 p4 p5 p6 p7 p8 q1 q2 q3 q4 r1 r2 r3 r4:Pos}
end
section
variable{X:Cx}{S:Type}{W:Wd S}{c:Dx W}{g:Gr}{k:Nat}{x:Str}{ps:List Str}{p pos:Pos}{e:Expr}{es:List Expr}{E:XK}{C:Addr}{G:List D->Ap Unit D}{f:A5 S}{nm q:Str}{hd ab:Bool}{newId:String}
end
section
variable{M:Model}{A:Around}{E:Value->Shared->Prop}{s:Shared}{x T Lv0:Addr}{C v c fl:Value}{od:Option Addr}{env:Env}{Q:Unit->Shared->Prop}{X:Cx}{A0:List 'p'}{Y:St}{H:Hp}{k:Nat}
end
section
variable{X:Cx}{S:Type}{W:Wd S}{c:Dx W}{k:Nat}{x:Str}{ps:List Str}{e:Expr}{es:List Expr}{E:XK}{C:Addr}{G:List D->Ap Unit D}{f:A5 S}
end
section
variable{X:Cx}{S:Type}{W:Wd S}{c:Dx W}{i:Nat}
def Hn(S:Type)(i:Nat)(o:List D->List D->Option (List D))(f:A5 S):Ay S:=λZ st=>match AF Z i with
 | some l=>(f Z st).bind λd st1=>(Az (o l d) st1).bind λl' st2=>.ok (.nx (Z.set i (.own (.lst l')))) st2
 | none=>.bad
instance MtA{S:Type}{W:Wd S}(c:Dx W)(r:V->List V->Hp->VK->Prop)(o:List D->List D->Option (List D)):Prop:=∀l d l' a vs us H (Q:VK),o l d=some l'->D.immL l=true->H a=some (.lst vs)->aa c.K 'w' H l vs->aa c.K 'w' H d us->
 (∀y ws,D.immL l'=true->aa c.K 'w' H l' ws->Q y (Af H a (.lst ws)))->r (.ref a) us H Q
def xL{x m:Str}{a:String}(q:MtR X a r)(s:MtA c r o)(g:Slot "list" m a)(j:typeOf (.builtin a)=pure (.type "method_descriptor"))(p:PE X (.Name x p1) (BA i))(r:DA X c (e::es) f)(b:autoParam (attributeBase (.Name x p1) m X.env (eval (.Name x p1) X.env)=eval (.Name x p1) X.env) uR)(h:autoParam (((backTo p3 (starEach (e::es) X.env)).all (λx=>!x.1)&&(backToKw p3 (keywordEach [] X.env)).all (λx=>x.1.isSome)
  && decide ((e::es).length+([]:List Keyword).length+(if ([]:List Keyword).isEmpty then 0 else 1)<30))=true) uR)(d:autoParam ((p2.endLine == p3.line)=true) uR)(n:autoParam 's' uR)(a:autoParam ((backTo p3 (starEach es X.env)).any (·.1)=false) uR)(l:autoParam (swapsWith (.Call (.Attribute (.Name x p1) m p2) (e::es) [] p3) none p4.line X.env=pure false) uR) :
 DS X c (.Expr (.Call (.Attribute (.Name x p1) m p2) (e::es) [] p3) p4) (Hn S i o f):=
 (ey (cw PySem.F.plainAttrs_list g j q p r b h d n a) l).imp λD Y H hI48=>by
  obtain⟨Z,b,R,h,w⟩:=hI48;unfold Hn at w;cases q:AF Z i with
  | none=>rw[q] at w;exact w.elim
  | some l=>
    rw[q] at w;obtain⟨a,n,r,m,z,j⟩:=R.lstAt q;refine{.ref a,r,.inl {rfl,n,.of m},Z,b,R,h,ak (ae.mp w) (λd b q v H1 e f A=>?_) λx b q H1 e f=>q H1 (e.f0 R) f};obtain⟨p,e',x⟩:=au.mp (ae.mp q);have u:=R.ext h e;have g:=e a _ m j;have q:AW (Av c Y Z) 'w' H1 H1:={λ_ _ z _=>z,λb o a z=>⟨a.1,z⟩};refine s l d p a n v H1 _ e' (cG (by assumption)).2 g (aa.mono q (z.mono (e.keepT h λb a=>⟨a.1,a⟩))) A λy b d z'=>?_
    obtain⟨R2,a⟩:=u.wr (d':=.lst p) (o:=.lst b) (bK (by assumption)) r {(λu z=>by cases z),(λh u z=>by cases z)} λk=>{b,aw,aa.mono k (aa.ofImm d z')}
    exact x Y _ (e.frm.trans a) (bv f j g) R2
theorem aa.erase{K:FG}{A:Addr->Prop}{H:Hp}:∀{l:List D} {a:List V} (n:Nat),aa K A H l a->aa K A H (l.eraseIdx n) (a.eraseIdx n)
 | [],a,n,h=>by rw[aa.nil.mp h];exact aa.nil.mpr rfl
 | x::l,a,0,h=>by
   obtain⟨w,r,e,i,j⟩:=aa.cons.mp h;subst e;exact j
 | x::l,a,n+1,h=>by
   obtain⟨w,r,e,i,j⟩:=aa.cons.mp h;subst e;exact aa.cons.mpr {w,r.eraseIdx n,rfl,i,aa.erase n j}
def lS:D.immL l=true↔∀d∈l,d.imm=true:={λh d b=>dz h b,λh=>by
 induction l with
 | nil=>rfl
 | cons a l e=>simp[D.immL,h a (.head _),e λd b=>h d (.tail _ b)]}
def sZ{K:FG}{A:Addr->Prop}{H:Hp}{a:Int}{b:List V}(h:aa K A H [.int a] b):b=[.int a]:=by
 obtain⟨v,r,e,i,j⟩:=aa.cons.mp h;rw[e,Is.int_iff.mp i,aa.nil.mp j]
section
variable{Z:Ag}{st:S}{Q:Fl->S->Prop}{E:AM->S->Prop}
def s5:Ab (Hn S i o f Z st) Q E↔∃l,AF Z i=some l/\Ab (f Z st) (λd a=>∃b,o l d=some b/\Q (.nx (Z.set i (.own (.lst b)))) a) E:=by
 unfold Hn;cases AF Z i with
 | none=>exact cJ
 | some l=>
   refine cI (aQ λd a=>?_);rw[ae,au];exact Iff.rfl
end
end
section
variable{X:Cx}{S:Type}{W:Wd S}{c:Dx W}{i j:Nat}
def E9(l d:List D):Option (D×List D):=match d with
 | [.int k]=>if 0<=k/\k<l.length/\l.length<=sizeLine then (l[k.toNat]?).map λx=>(x,l.eraseIdx k.toNat) else none
 | _=>none
def s6{k:Int}(b:0<=k)(a:k<l.length)(d:l.length<=1000)(e:l[k.toNat]?=some x):E9 l [.int k]=some (x,l.eraseIdx k.toNat):=by
 show (if 0<=k/\k<l.length/\l.length<=sizeLine then (l[k.toNat]?).map λx=>(x,l.eraseIdx k.toNat) else none)=_;rw[if_pos {b,a,aU d},e];rfl
open H in
def lT(e:E9 l ds=some p)(im:D.immL l=true)(m:H a=some (.lst f))(z:aa c.K 'w' H l f)(d:aa c.K 'w' H ds o)(q:∀y b,D.immL p.2=true->p.1.imm=true->aa c.K 'w' H p.2 b->Is c.K 'w' H p.1 y->Q y (Af H a (.lst b))):Jj (.ref a) o H Q:=by
 unfold E9 at e;split at e
 ·rename_i k
  by_cases h:0<=k/\k<l.length/\l.length<=sizeLine
  ·rw[if_pos h] at e
   cases b:l[k.toNat]? with
   | none=>rw[b] at e;cases e
   | some x=>
     rw[b] at e;cases e;have l:=sZ d;subst l;obtain⟨y,g,n⟩:=z.get b;have d:(sizeLine:Int)<2 ^ 63:=by decide
     exact{a,f,k,k.toNat,y,rfl,rfl,m,'o','o',PySem.StrLaws.seqIndex_nonneg h.1 (by rw[<-z.length];exact h.2.1),g,q y _ (lS.mpr λd a=>dz im (List.mem_of_mem_eraseIdx a)) (dz im (Ct b)) (z.erase _) n}
  ·rw[if_neg h] at e;cases e
 ·cases e
def Ho(S:Type)(i j:Nat)(f:A5 S):Ay S:=λZ st=>match AF Z j with
 | some l=>(f Z st).bind λds st1=>(Az (E9 l ds) st1).bind λp st2=>(Az (put (Z.set j (.own (.lst p.2))) i p.1) st2).bind λZ' st3=>.ok (.nx Z') st3
 | none=>.bad
def xM{x y:Str}(q:X.N.Nodup)(B:X.N[i]?=some y)(m:Loc X.env.scope y)(p:PE X (.Name x p1) (BA j))(r:DA X c (e::es) f)(b:autoParam (attributeBase (.Name x p1) "pop" X.env (eval (.Name x p1) X.env)=eval (.Name x p1) X.env) uR)(g:autoParam (((backTo p3 (starEach (e::es) X.env)).all (λx=>!x.1)&&(backToKw p3 (keywordEach [] X.env)).all (λx=>x.1.isSome)
  && decide ((e::es).length+([]:List Keyword).length+(if ([]:List Keyword).isEmpty then 0 else 1)<30))=true) uR)(d:autoParam ((p2.endLine == p3.line)=true) uR)(n:autoParam 's' uR)(a:autoParam ((backTo p3 (starEach es X.env)).any (·.1)=false) uR)(h:autoParam (swapsWith (.Call (.Attribute (.Name x p1) "pop" p2) (e::es) [] p3) (some (.Name y p4)) pos.line X.env=pure false) uR)(l:autoParam (X.fn y=true\/X.env.scope.names.lookup y=some .local) z0a._auto_1) :
 DS X c (.Assign [.Name y p4] (.Call (.Attribute (.Name x p1) "pop" p2) (e::es) [] p3) pos) (Ho S i j f):=
 (bB q B m (cw PySem.F.plainAttrs_list PySem.F.slot_list_pop PySem.F.type_list_pop jh p r b g d n a) h l).imp λD Y H hI49=>by
  obtain⟨Z,d,R,h,w⟩:=hI49;unfold Ho at w;cases q:AF Z j with
  | none=>rw[q] at w;exact w.elim
  | some l=>
    rw[q] at w;obtain⟨a,b,r,l,z,p⟩:=R.lstAt q;refine{.ref a,r,.inl {rfl,b,.of l},Z,d,R,h,ak (ae.mp w) (λd b q v H1 e g u=>?_) λx b q H1 e g=>q H1 (e.f0 R) g};obtain⟨m,e',n⟩:=au.mp (ae.mp q);obtain⟨b,C,n⟩:=au.mp (ae.mp n);have s:=R.ext h e;have d:=e a _ l p;have q:AW (Av c Y Z) 'w' H1 H1:={λ_ _ z _=>z,λb o a z=>⟨a.1,z⟩};refine lT e' (cG (by assumption)).2 d (aa.mono q (z.mono (e.keepT h λb a=>⟨a.1,a⟩))) u λy l h q z' x=>?_
    obtain⟨R2,v⟩:=s.wr (d':=.lst m.2) (o:=.lst l) (bK (by assumption)) r {(λu z=>by cases z),(λA u z=>by cases z)} λk=>{l,aw,aa.mono k (aa.ofImm h z')}
    have r:∀b o,H1 b=some o->DL o->Af H1 a (.lst l) b=some o:=λb o h s=>by
     by_cases e:b=a
     ·subst e;rw[d] at h;cases h;rcases s with⟨u,e⟩ | ⟨A,u,e⟩<;>cases e
     ·rw[aj e];exact h
    have b:Is c.K (λ_=>False) (Af H1 a (.lst l)) m.1 y:=Is.mono {r,λ_ _ f=>False.elim f} (Is.ofImm q x);obtain⟨h,rfl⟩:=bL C;have f:=R2.setB h (show Is c.K (Av c Y (Z.set j (.own (.lst m.2)))) (Af H1 a (.lst l)) m.1 y from Is.ofImm q b);exact n _ _ ((e.frm.trans v).trans bf) (bv g p d) f
def Hr(S:Type)(i j:Nat)(f:A5 S):Ay S:=λZ st=>if i=j then .bad else match AF Z i,AF Z j with
 | some m,some l=>(f Z st).bind λds st1=>(Az (E9 l ds) st1).bind λp st2=>if m.length<sizeLine then .ok (.nx ((Z.set j (.own (.lst p.2))).set i (.own (.lst (m++[p.1]))))) st2 else .bad
 | _,_=>.bad
def xN{x y:Str}(s:PE X (.Name y p4) (BA i))(r:PE X (.Name x p1) (BA j))(v:DA X c (e::es) f)(h:autoParam (attributeBase (.Name x p1) "pop" X.env (eval (.Name x p1) X.env)=eval (.Name x p1) X.env) uR)(g:autoParam (attributeBase (.Name y p4) "append" X.env (eval (.Name y p4) X.env)=eval (.Name y p4) X.env) uR)(p:autoParam (((backTo p3 (starEach (e::es) X.env)).all (λx=>!x.1)&&(backToKw p3 (keywordEach [] X.env)).all (λx=>x.1.isSome)
  && decide ((e::es).length+([]:List Keyword).length+(if ([]:List Keyword).isEmpty then 0 else 1)<30))=true) uR)(l:autoParam ((p2.endLine == p3.line)=true) uR)(u:autoParam 's' uR)(d:autoParam ((backTo p3 (starEach es X.env)).any (·.1)=false) uR)(m:autoParam (((backTo p6 (starEach [.Call (.Attribute (.Name x p1) "pop" p2) (e::es) [] p3] X.env)).all (λx=>!x.1)&&(backToKw p6 (keywordEach [] X.env)).all (λx=>x.1.isSome)
  && decide (([.Call (.Attribute (.Name x p1) "pop" p2) (e::es) [] p3]:List Expr).length+([]:List Keyword).length+(if ([]:List Keyword).isEmpty then 0 else 1)<30))=true) uR)(b:autoParam ((p5.endLine == p6.line)=true) uR)(n:autoParam (starEach [.Call (.Attribute (.Name x p1) "pop" p2) (e::es) [] p3] X.env=(false,eval (.Call (.Attribute (.Name x p1) "pop" p2) (e::es) [] p3) X.env)::starEach [] X.env) uR)(a:autoParam ((backTo p6 (starEach [] X.env)).any (·.1)=false) uR)(q:autoParam (swapsWith (.Call (.Attribute (.Name y p4) "append" p5) [.Call (.Attribute (.Name x p1) "pop" p2) (e::es) [] p3] [] p6) none pos.line X.env=pure false) uR) :
 DS X c (.Expr (.Call (.Attribute (.Name y p4) "append" p5) [.Call (.Attribute (.Name x p1) "pop" p2) (e::es) [] p3] [] p6) pos) (Hr S i j f):=
 (ey (cw PySem.F.plainAttrs_list PySem.F.slot_list_append PySem.F.type_list_append ge s (bp (cw PySem.F.plainAttrs_list PySem.F.slot_list_pop PySem.F.type_list_pop jh r v h p l u d) bu n) g m b n a) q).imp λD Y H hI50=>by
  obtain⟨Z,s,R,C,w⟩:=hI50;unfold Hr at w;by_cases n:i=j
  ·rw[if_pos n] at w;exact w.elim
  rw[if_neg n] at w;cases r:AF Z i with
  | none=>rw[r] at w;exact w.elim
  | some m=>
    cases q:AF Z j with
    | none=>rw[r,q] at w;exact w.elim
    | some l=>
      rw[r,q] at w;obtain⟨a,d,I,u,z,J⟩:=R.lstAt q;obtain⟨A,g,p,b,M,B⟩:=R.lstAt r;have F:A≠a:=λh=>n (R.uniq i j a _ _ (bK r) (bK q) (h▸p) I)
      refine{.ref A,p,.inl {rfl,g,.of b},.ref a,I,.inl {rfl,d,.of u},Z,s,R,C,ak (ae.mp w) (λd s q v H1 e l N=>?_) λx s q H1 e l=>q H1 (e.f0 R) l};obtain⟨E,e',x⟩:=au.mp (ae.mp q);by_cases G:m.length<sizeLine
      ·rw[if_pos G] at x
       have s:=R.ext C e;have q:=e a _ u J;have v:=e A _ b B;have d:AW (Av c Y Z) 'w' H1 H1:={λ_ _ z _=>z,λb o a z=>⟨a.1,z⟩};refine lT e' (cG (by assumption)).2 q (aa.mono d (z.mono (e.keepT C λb a=>⟨a.1,a⟩))) N λy d R L z' P=>?_
       obtain⟨R2,O⟩:=s.wr (d':=.lst E.2) (o:=.lst d) (bK (by assumption)) I {(λu z=>by cases z),(λI u z=>by cases z)} λk=>{d,aw,aa.mono k (aa.ofImm R z')}
       have Q:∀b o,H1 b=some o->DL o->Af H1 a (.lst d) b=some o:=λb o h s=>by
        by_cases e:b=a
        ·subst e;rw[q] at h;cases h;rcases s with⟨u,e⟩ | ⟨I,u,e⟩<;>cases e
        ·rw[aj e];exact h
       have N:AW (λ_=>False) (λ_=>False) H1 (Af H1 a (.lst d)):={Q,λ_ _ f=>False.elim f};have h:Is c.K (λ_=>False) (Af H1 a (.lst d)) E.1 y:=Is.mono N (Is.ofImm L P);have f:=(cG r).2;have s:aa c.K (λ_=>False) (Af H1 a (.lst d)) m g:=aa.mono N (aa.ofImm f (M.mono (e.keepT C λb a=>⟨a.1,a⟩)));have C:(Z.set j (.own (.lst E.2)))[i]?=some (.own (.lst m)):=by rw[Dy (Ne.symm n)];exact bK r
       have b:Af H1 a (.lst d) A=some (.lst g):=by rw[aj F];exact v
       refine{A,g,y,rfl,rfl,b,by rw[<-M.length];exact G,?_};obtain⟨a,d⟩:=R2.wr (d':=.lst (m++[E.1])) (o:=.lst (g++[y])) C p {(λu z=>by cases z),(λI u z=>by cases z)} λk=>{_,aw,aa.mono k (aa.append (aa.ofImm f s) (aa.one (Is.ofImm L h)))}
       exact x Y _ ((e.frm.trans O).trans d) (bv (bv l J q) B b) a
      ·rw[if_neg G] at x;exact(show False from x).elim
section
variable{Z:Ag}{st:S}{Q:Fl->S->Prop}{E:AM->S->Prop}
def s7(h:i≠j)(n:AF Z i=some m)(e:AF Z j=some l)(g:m.length<sizeLine)(d:Ab (f Z st) (λb a=>∃p,E9 l b=some p/\Q (.nx ((Z.set j (.own (.lst p.2))).set i (.own (.lst (m++[p.1]))))) a) E):Ab (Hr S i j f Z st) Q E:=by
 unfold Hr;rw[if_neg h,n,e];refine ae.mpr (ak d (λb a hI127=>?_) λ_ _ z=>z);obtain⟨p,e,q⟩:=hI127;refine ae.mpr (au.mpr {p,e,?_});rw[if_pos g];exact q
def s8:Ab (Ho S i j f Z st) Q E↔∃l,AF Z j=some l/\Ab (f Z st) (λd a=>∃p,E9 l d=some p/\∃b,put (Z.set j (.own (.lst p.2))) i p.1=some b/\Q (.nx b) a) E:=by
 unfold Ho;cases AF Z j with
 | none=>exact cJ
 | some l=>
   refine cI (aQ λd a=>?_);rw[ae,au];constructor
   ·rintro ⟨p,e,h⟩;rw[ae,au] at h;exact⟨p,e,h⟩
   ·rintro ⟨p,e,h⟩;refine{p,e,?_};rw[ae,au];exact h
end
end
def fw:plainId "list.remove.loop" = true:=by decide +kernel
def lU:entryFor table "list.remove.loop" = some Builtin.«list.remove.loop»:=entryFor_of_tree (by kernel_rfl)
def s9(a:Addr)(b:Array Value)(n:Nat)(x:Value)(f:Nat->Bool)(j:Nat)(o:j<b.size)(hz:b.size<=sizeLine)(g:f j=true)(d:Nat) :
 ∀i:Nat,i+d=j->(∀m,i<=m->m<j->f m=false)->Meets (Builtin.«list.remove.loop» {[.ref a,x,rawInt i],[]})
  (λA R s=>s.heap.get? a=some { cls:=.type "list",data:=.seq b n }/\(∀m y,b[m]?=some y->EqAt A.in1 s y x (f m))/\R (.ok (.ret .none)) { s with heap:=s.heap.update a (Obj.mapSeq λxs=>xs.eraseIdxIfInBounds j) }):=by
 induction d with
 | zero=>
   intro i n f prog w A R s h;obtain⟨u,r,v,p,q⟩:=s;obtain⟨c,a,l⟩:=h;have e:i=j:=by omega
   subst e
   wp_walk using wpAny_loadPart' c
   have j:b[((i:Nat):Int).toNat]?=some b[i]:=by simp[o]
   rw[j];refine Ac (a i _ (Eg o) prog w _ _ ?_);rw[g];have e:((λxs:Array Value=>xs.eraseIdxIfInBounds (((i:Nat):Int)).toNat) b).size<=sizeLine+1:=by
    show (b.eraseIdxIfInBounds (((i:Nat):Int)).toNat).size<=_;rw[CH,<-Array.toArray_toList (xs:=b),GN,AQ];have g:(b.toList.eraseIdx i).length<=b.toList.length:=dN b.toList i;have g:b.toList.length=b.size:=Dz;show (b.toList.eraseIdx i).length<=_;omega
   wp_walk using (wpAny_updateSeq c rfl (hz:=hz) (_hz':=e))
   simpa using l
 | succ d o=>
   intro i n f prog w A R s h;obtain⟨u,r,v,p,q⟩:=s;obtain⟨c,a,l⟩:=h;have d:i<b.size:=by omega
   wp_walk using wpAny_loadPart' c
   have j:b[((i:Nat):Int).toNat]?=some b[i]:=by simp[d]
   have e:((i:Nat):Int)+1=((i+1:Nat):Int):=by omega
   rw[j];refine Ac (a i _ (Eg d) prog w _ _ ?_);rw[f i (Al _) 'o']
   wp_walk
   rw[e];exact{plainId_quiet fw _,codeAny_builtin lU (by
    rw[Around.under_plainId fw _];exact o (i+1) 'o' (λm d g=>f m 'o' g) prog w A R _ ⟨c,a,l⟩)}
def tf(a:Addr)(b:Array Value)(n:Nat)(x:Value)(f:Nat->Bool)(j:Nat)(i:j<b.size)(d:b.size<=sizeLine)(c:f j=true)(e:∀m,m<j->f m=false) :
 Meets (Builtin.«list.remove» {[.ref a,x],[]}) (λA R s=>s.heap.get? a=some { cls:=.type "list",data:=.seq b n }/\(∀m y,b[m]?=some y->EqAt A.in1 s y x (f m))/\R (.ok (.ret .none)) { s with heap:=s.heap.update a (Obj.mapSeq λg=>g.eraseIdxIfInBounds j) }):=by
 intro prog w A R s h;obtain⟨p,o,q,g,l⟩:=s
 wp_walk
 exact{plainId_quiet fw _,codeAny_builtin lU (by
  rw[Around.under_plainId fw _];exact s9 a b n x f j i d c j 0 'o' (λm _ a=>e m a) prog w A R _ h)}
def DP(x:D):List D->Option Nat
 | []=>none
 | d::l=>(D.eqq d x).bind λb=>if b=true then some 0 else (DP x l).map λn=>n+1
theorem lV:∀{l:List D} {n:Nat},DP x l=some n->n<l.length/\(∀m d,l[m]?=some d->m<n->D.eqq d x=some false)/\∀d,l[n]?=some d->D.eqq d x=some true
 | [],n,e=>by cases e
 | a::l,n,e=>by
   unfold DP at e;cases q1:D.eqq a x with
   | none=>rw[q1] at e;cases e
   | some b=>
     rw[q1] at e;cases b with
     | true=>
       cases e;exact{Fq _,λm d _ h=>absurd h 'o',λd h=>by cases h;exact q1}
     | false=>
       cases q2:DP x l with
       | none=>rw[q2] at e;cases e
       | some k=>
         rw[q2] at e;have e:some (k+1)=some n:=e;cases e;obtain⟨a,b,c⟩:=lV q2;refine{by rw[B1];omega,λm d a e=>?_,λd a=>c d a};cases m with
         | zero=>cases a;exact q1
         | succ m=>exact b m d a 'o'
section
open Classical in
instance eqN(x:D)(l:List D)(m:Nat):Bool:=decide (∃d,l[m]?=some d/\D.eqq d x=some true)
def tj(I:Ad X A0 Y H s){n:Nat}(p:D.depL l<=30)(B:A.units+30<cLine)(e:DP x l=some n)(j:∀d∈l,∃b,D.eqq d x=some b)(i:aa X.K A1 H l z)(o:Ao z c)(h:Is X.K A1 H x v)(r:An v u) :
 n<c.length/\eqN x l n=true/\(∀m,m<n->eqN x l m=false)/\∀m y,c[m]?=some y->EqAt A s y u (eqN x l m):=by
 classical
 obtain⟨a,q,g⟩:=lV e;have s:l.length=c.length:=i.length.trans o.length;refine{'o',aV {_,Ba a,g _ (Ba a)},λm f=>aI λhI128=>?_,λm y n=>?_}
 ·obtain⟨d,g,e⟩:=hI128
  rw[q m d g f] at e;cases e
 ·have f:m<l.length:=by rw[s];exact(Bd.mp n).1
  have a:=Ba f;obtain⟨w,q,s⟩:=i.get a;obtain⟨v,f,u⟩:=o.get q;rw[n] at f;cases f;obtain⟨b,i⟩:=j _ (Ct a);have q:=eQ I 30 (Aw (eP a) p) B i s h u r;have:eqN x l m=b:=by
   cases b with
   | true=>exact aV {_,a,i}
   | false=>exact aI λ⟨d,g,e⟩=>by rw[a] at g;cases g;rw[i] at e;cases e
  rw[this];exact q
def JE(K:FG):V->List V->Hp->VK->Prop:=λx vs H Q=>∃(l:Addr) (xs:List V) (y:V) (A1:Addr->Prop) (dl:List D) (d:D) (n:Nat),x=.ref l/\vs=[y]/\H l=some (.lst xs)/\aa K A1 H dl xs/\Is K A1 H d y/\D.depL dl<=30/\(∀e∈dl,∃b,D.eqq e d=some b)/\DP d dl=some n/\Q .non (Af H l (.lst (xs.eraseIdx n)))
def xO{k:Nat}(p:Bc k X.A):MtM X "list.remove" (JE X.K):=by
 intro a s Y H x b v d Q I a c h;obtain⟨l,v,y,b,o,d,n,rfl,rfl,g,j,f,i,b,e,q⟩:=h;cases a;obtain⟨u,rfl,A⟩:=c.one;obtain⟨z,a,m,r,h,c⟩:=I.lstM g;have x:X.A.in1.units+30<cLine:=by rw[Around.in1_units];have:=p.units;omega
 obtain⟨s,h,z,p⟩:=tj I i x e b j r f A;refine call_meets F.slot_list_remove {_,c,rfl} F.entry_list_remove (F.args_list_remove_2 _ _) (tf l a.toArray m u (eqN d o) n (by rw[AQ];exact s) (by rw[AQ];omega) h z) {c,λm y b=>p m y (by simpa using b),?_};refine{.non,_,I.lset (its':=a.eraseIdx n) g c ?_ (r.eraseIdx n) ?_,rfl,q}
 ·show a.toArray.eraseIdxIfInBounds n=(a.eraseIdx n).toArray
  rw[GN]
 ·have:=dN v n
  omega
variable{S:Type}
open Classical in
def Hs(l d:List D):Option (List D):=match d with
 | [x]=>if D.depL l<=30/\∀e∈l,∃b,D.eqq e x=some b then (DP x l).map λn=>l.eraseIdx n else none
 | _=>none
def tm{n:Nat}(c:D.depL l<=30)(a:∀e∈l,∃b,D.eqq e x=some b)(e:DP x l=some n):Hs l [x]=some (l.eraseIdx n):=by
 classical
 show (if D.depL l<=30/\∀e∈l,∃b,D.eqq e x=some b then (DP x l).map λn=>l.eraseIdx n else none)=_;rw[if_pos ⟨c,a⟩,e];rfl
open H in
def xP:MtA c (JE c.K) Hs:=by
 classical
 intro l d c a m b H Q e im g z i q;unfold Hs at e;split at e
 ·rename_i x
  by_cases h:D.depL l<=30/\∀e∈l,∃b,D.eqq e x=some b
  ·rw[if_pos h] at e
   cases b:DP x l with
   | none=>rw[b] at e;cases e
   | some n=>
     rw[b] at e;cases e;obtain⟨v,r,c,j,f⟩:=aa.cons.mp i;rw[aa.nil.mp f] at c;subst c;exact{a,m,v,_,l,x,n,rfl,rfl,g,z,j,h.1,h.2,b,q _ _ (lS.mpr λd a=>dz im (List.mem_of_mem_eraseIdx a)) (z.erase _)}
  ·rw[if_neg h] at e;cases e
 ·cases e
end
section
variable{name:Str}{id:String}{X:Cx}{S:Type}{W:Wd S}{c:Dx W}{g:Gr}
end
section
variable{prog:Program}{w:World}{A:Around}{E:Value->Shared->Prop}{s:Shared}{K:Type}[DecidableEq K]{knd:HeapKind prog w K}{d a:Addr}{xs:List (K×Addr×Value)}{k:K}{j:Nat}{p:Addr×Value}
def tq{es:Array DictEntry}(b:es.toList=xs.map (entryOfKey knd)):(es.eraseIdxIfInBounds j).toList=(xs.eraseIdx j).map (entryOfKey knd):=by
 obtain⟨l⟩:=es;have b:l=xs.map (entryOfKey knd):=b;subst b;rw[GN];show (xs.map (entryOfKey knd)).eraseIdx j=_;clear b;induction xs generalizing j with
 | nil=>rfl
 | cons x xs b=>cases j with
   | zero=>rfl
   | succ j=>rw[Be,List.eraseIdx_cons_succ,List.eraseIdx_cons_succ,Be,b]
def tu{Q:Option DictEntry->Shared->Prop}(g:knd.room A)(b:knd.is s.heap k a)(i:s.heap.DictOfH knd d xs)(h:xs[j]?=some (k,p))(hz:xs.length<=sizeLine)(n:∀c e,c.DictOfH knd d (xs.eraseIdx j)->Heap.SameBut d s.heap c->e.val=p.2->Q (some e) { s with heap:=c,toks:=s.toks+knd.draws k }):wpAny 'r' A (Builtin.Dict.takeOut d (.ref a)) Q E s:=by
 obtain⟨o,es,r,e,u,c,l,f,m⟩:=i;unfold Builtin.Dict.takeOut;refine wpAny_holding (Ac (knd.pyHash g b (Ac (wpAny_dictFind_heap (s:={ s with toks:=s.toks+knd.draws k }) g b e c l f m (λg=>absurd h (g j p)) λi q b=>?_))));have g:i=j:=idxH_unique m b h;subst g;rw[h] at b;cases b;refine Ac (wpAny_dictEntries (s:={ s with toks:=s.toks+knd.draws k }) e c ?_);have g:es[i]?=some (entryOfKey knd (k,p)):=by
  rw[<-FC,l,AX,h];rfl
 rw[g];have b:es.size<=sizeLine:=by rw[<-Dz,l,Ai];exact hz
 refine Ac (wpAny_updateDictKeys (hz:=b) (s:={ s with toks:=s.toks+knd.draws k }) e c (Aj (n _ _ {_,_,r+1,GV _ e (Obj.isFreed_of_dict (Obj.data_mapDictKeys c _)),u.mapDictKeys _,Obj.data_mapDictKeys c _,tq l,λx b=>knd.keeps (f x (List.mem_of_mem_eraseIdx b)) e c (Heap.SameBut.update ..),?_} (Heap.SameBut.update ..) rfl)));exact List.Nodup.sublist (List.Sublist.map _ (GU _ _)) m
def tw(n:knd.room A.in1)(c:knd.is s.heap k a)(f:s.heap.DictOfH knd d xs)(h:xs[j]?=some (k,p))(l:xs.length<=sizeLine)(i:∀b,b.DictOfH knd d (xs.eraseIdx j)->Heap.SameBut d s.heap b->Q p.2 { s with heap:=b,toks:=s.toks+knd.draws k }):wpAny 'r' A (call (.builtin "dict.pop") [.ref d,.ref a]) Q E s:=by
 refine C3 PySem.F.slot_dict_pop f.typeIs PySem.F.entry_dict_pop ?_ (PySem.F.args_dict_pop_2 _ _);obtain⟨o,es,r,m,u,e,q,g,o⟩:=id f;unfold Builtin.«dict.pop»;refine Ac ?_;unfold Builtin.Dict.keyAndDefault;refine Ac (wpAny_notOrdered_dict f.typeIs ?_);show wpAny _ _ (pure (d,Value.ref a,none)) _ _ s;refine Aj ?_;have kp:(keyPart (Value.ref a)).isSome=false:=rfl;simp only[kp,BV,if_false];refine Ac (wpAny_dictEntries m e ?_);have g:es.isEmpty=false:=by
  have:0<es.size:=by
   rw[<-Dz,q,Ai];exact Cc (AR _) (Bd.mp h).1
  rw[Array.isEmpty_eq_false_iff];intro z;rw[z] at this;simp at this
 simp only[g];refine Ac (Aj ?_);simp only[BV,if_false];refine Ac (tu n c f h l λb e g c f=>?_);simp only[Option.isNone_some,BV,if_false];exact Ac (wpAny_letGo (Aj {e.val,rfl,by rw[f];exact i b g c}))
end
theorem KT.at{H:Hp}{a:List (List Ak×V)}{b:List (List Ak×Addr×Value)}(r:KT H a b):∀{j:Nat} {k:List Ak} {y:V},a[j]?=some (k,y)->∃p,b[j]?=some (k,p)/\An y p.2:=by
 induction r with
 | nil=>intro j k y e;cases e
 | @cons p q g f c t d=>
   intro j k y e;cases j with
   | zero=>cases e;exact{q.2,by rw[List.getElem?_cons_zero];exact congrArg some (Prod.ext c.1.symm rfl),c.2.2}
   | succ j=>exact d e
theorem KT.erase(r:KT H a d):∀{j:Nat},KT H (a.eraseIdx j) (d.eraseIdx j):=by
 induction r with
 | nil=>intro j;exact .nil
 | @cons p q e f b t c=>
   intro j;cases j with
   | zero=>exact t
   | succ j=>exact .cons b c
def Kz:V->List V->Hp->VK->Prop:=λx vs H Q=>∃a kvs k b j y,x=.ref a/\vs=[.ref b]/\H a=some (.dT kvs)/\Cg H b k/\kvs[j]?=some (k,y)/\Q y (Af H a (.dT (kvs.eraseIdx j)))
def tz(m:X.A.units+2<cLine):MtM X "dict.pop" Kz:=by
 intro b s Y H x a v d Q I g c h;obtain⟨a,d,k,b,j,y,rfl,rfl,e,f,l,q⟩:=h;cases g;obtain⟨u,rfl,i⟩:=c.one;cases i;obtain⟨z,g,b,a,n⟩:=eG I.hok e;obtain⟨p,i,h⟩:=a.at l;have c:b.length<=sizeLine:=by rw[<-Paired.length a];exact z
 refine tw (cB m) (bS I.hok f) n i c λl b p=>?_
 obtain⟨o,es,r,f,i,n,l,_,m⟩:=b;refine{y,_,de (ob:=.dT (d.eraseIdx j)) I (by rw[e];exact True.intro) p ⟨o,f⟩ {?_,g,_,a.erase.keeps λc p b=>?_,o,es,r,f,i,n,l,m},h,q}
 ·have:=dN d j;omega
 ·rw[aj (bQ b e (λz=>nomatch z))]
  exact b
def Fa(k:List Ak):List D->List D->Option (List D×List D)
 | x::ks,v::vs=>if AG x=some k then some (ks,vs) else (Fa k ks vs).map λp=>(x::p.1,v::p.2)
 | _,_=>none
theorem lW{K:FG}{A:Addr->Prop}{H:Hp}{k:List Ak}:∀{c:List (List Ak)} {f:List D} {g:List V} {r:List D×List D},c.length=g.length->aa K A H f g->Fa k (c.map AC) f=some r->
 ∃(j:Nat) (y:V) (b:List (List Ak)) (a:List V),(c.zip g)[j]?=some (k,y)/\r.1=b.map AC/\aa K A H r.2 a/\b.length=a.length/\(c.zip g).eraseIdx j=b.zip a
 | [],f,g,r,i,h,e=>by cases f<;>cases e
 | x::c,f,g,r,i,h,e=>by
   cases f with
   | nil=>cases e
   | cons d f=>
     obtain⟨u,w,n,m,l⟩:=aa.cons.mp h;subst n;have i:c.length=w.length:=by simpa using i
     have e:(if AG (AC x)=some k then some (c.map AC,f) else (Fa k (c.map AC) f).map λp=>(AC x::p.1,d::p.2))=some r:=e;rw[cH] at e;by_cases z:x=k
     ·rw[if_pos (by rw[z])] at e
      cases e;exact{0,u,c,w,by rw[<-z];rfl,rfl,l,i,rfl}
     ·rw[if_neg (λq=>z (Option.some.inj q))] at e
      obtain⟨r',e',d⟩:=Option.map_eq_some_iff.mp e;subst d;obtain⟨j,y,b,a,e,h,o,d,n⟩:=lW i l e';refine{j+1,y,x::b,u::a,e,?_,aa.cons.mpr ⟨u,a,rfl,m,o⟩,by simp[d],?_}
      ·show AC x::r'.1=_
       rw[h];rfl
      ·show (x,u)::(c.zip w).eraseIdx j=(x,u)::b.zip a
       rw[n]
section
variable{X:Cx}{S:Type}{W:Wd S}{c:Dx W}{g:Gr}{fk:Fn S}{i:Nat}
def Ir(S:Type)(i:Nat)(fk:Fn S):Ay S:=λZ st=>match BL Z i with
 | some (ks,vs)=>(fk Z st).bind λk st2=>match AG k with
   | some kk=>match Fa kk ks vs with
     | some r=>.ok (.nx (Z.set i (.own (.dct (.non::r.1) r.2)))) st2
     | none=>.bad
   | none=>.bad
 | none=>.bad
def hA{Z:Ag}{n:S}{Q:Fl->S->Prop}{E:AM->S->Prop}:Ab (Ir S i fk Z n) Q E↔∃j l,BL Z i=some (j,l)/\Ab (fk Z n) (λd a=>∃b r,AG d=some b/\Fa b j l=some r/\Q (.nx (Z.set i (.own (.dct (.non::r.1) r.2)))) a) E:=by
 unfold Ir;cases e:BL Z i with
 | none=>exact{λh=>h.elim,λ⟨_,_,e,_⟩=>by cases e}
 | some f=>
   obtain⟨j,l⟩:=f;constructor
   ·intro h
    refine{j,l,rfl,ak (ae.mp h) (λd a q=>?_) λ_ _ q=>q};cases m:AG d with
    | none=>simp only[m] at q;exact(show False from q).elim
    | some b=>
      simp only[m] at q;cases f:Fa b j l with
      | none=>simp only[f] at q;exact(show False from q).elim
      | some r=>simp only[f] at q;exact⟨b,r,rfl,f,q⟩
   ·rintro ⟨o,p,e,h⟩
    cases e;refine ae.mpr (ak h (λd a hI129=>?_) λ_ _ q=>q);obtain⟨b,r,m,f,q⟩:=hI129;simp only[m,f];exact q
def xQ{x:Str}(hu:X.A.units+2<cLine)(hx:PE X (.Name x p1) (BA i))(he:DE X c g e fk)(d:autoParam (attributeBase (.Name x p1) "pop" X.env (eval (.Name x p1) X.env)=eval (.Name x p1) X.env) uR)(s:autoParam (((backTo p3 (starEach [e] X.env)).all (λx=>!x.1)&&(backToKw p3 (keywordEach [] X.env)).all (λx=>x.1.isSome)
  && decide (([e]:List Expr).length+([]:List Keyword).length+(if ([]:List Keyword).isEmpty then 0 else 1)<30))=true) uR)(f:autoParam ((p2.endLine == p3.line)=true) uR)(hs:autoParam (starEach [e] X.env=(false,eval e X.env)::starEach [] X.env) uR)(a:autoParam ((backTo p3 (starEach [] X.env)).any (·.1)=false) uR)(M:autoParam (swapsWith (.Call (.Attribute (.Name x p1) "pop" p2) [e] [] p3) none p4.line X.env=pure false) uR) :
 DS X c (.Expr (.Call (.Attribute (.Name x p1) "pop" p2) [e] [] p3) p4) (Ir S i fk):=
 (ey (cw PySem.F.plainAttrs_dict PySem.F.slot_dict_pop PySem.F.type_dict_pop (tz hu) hx (bp he bu hs) d s f hs a) M).imp λD Y H hI51=>by
  obtain⟨Z,st,R,P,w⟩:=hI51;obtain⟨ks,vs,hd,w⟩:=hA.mp w;obtain⟨E,im⟩:=kn hd;obtain⟨L,ea,nn,f0,us0,iu0,G⟩:=R.slot i _ E;have ty:tyV X.K "dict" (.ref L) H:=by
   rcases G with⟨N,m,_,_⟩ | ⟨U,T,el,B⟩
   ·cases N with
    | nil=>cases m
    | cons y r=>
      have:L2.D.non=CC y:=(List.cons.inj m).1;cases y<;>cases this
   ·exact .inr (.inr (.inl {rfl,.inr {_,B}}))
  refine{.ref L,bC ea,ty,Z,st,R,P,ak w (λdk I ⟨kk,r,C,hp,q⟩ vk H1 v b zk=>?_) λx I q H1 v b=>q H1 (v.f0 R) b};have Q:=R.ext P v;obtain⟨n,p,nn',f0',us,iu,hq⟩:=Q.slot i _ E;have:n=L:=by
   have:=(bC p).symm.trans (bC ea);cases this;rfl
  subst this;obtain⟨bk,J,O,_⟩:=dh C (show Is c.K 'w' H1 dk vk from zk.toR);subst J;rcases hq with⟨N,m,_,_⟩ | ⟨U,T,el,B⟩
  ·cases N with
   | nil=>cases m
   | cons y r=>
     have:L2.D.non=CC y:=(List.cons.inj m).1;cases y<;>cases this
  ·have e3:ks=U.map AC:=(List.cons.inj T).2
   subst e3;obtain⟨j,y,l,h,g1,g2,g3,g4,g5⟩:=lW el iu hp;refine{n,_,kk,bk,j,y,rfl,rfl,B,O,g1,?_};rw[g5];obtain⟨R3,F3⟩:=Q.wr (d':=.dct (.non::r.1) r.2) (o:=.dT (l.zip h)) E (bC p) {(λu z=>by cases z),(λob u z=>by cases z)}
    λkt=>{h,g3.mono kt,.inr {l,by rw[g2],g4,aw}}
   exact q Y _ (v.frm.trans F3) (bv b nn.1 B) R3
end
def tE{b:Nat}(a:(d == sysModules)=false)(g:s.heap.get? d=some (BN es b))(h:R (.int es.size s.toks) { s with toks:=s.toks+1 }):wpAny 'r' A (call (.builtin "dict.__len__") [.ref d]) R E s:=by
 refine C3 F.slot_dict_len {_,g,rfl} F.entry_dict_len ?_ (F.args_dict_len_1 _);show wpAny _ _ (PySem.dictSize d >>= _) _ _ s;unfold PySem.dictSize;refine Ac (Ac (wpAny_dictEntries g rfl (Aj ?_)));refine Ac (wpAny_pendingCount_other a (wpAny_ret_mkInt ?_));show R (.int ((es.size:Int)+((0:Nat):Int)) s.toks) _;rw[show (es.size:Int)+((0:Nat):Int)=es.size by omega];exact h
def tF{b:Nat}(a:(d == sysModules)=false)(g:s.heap.get? d=some (BN es b))(c:es.size<=sizeLine)(h:Q (.int es.size (s.toks+1)) { s with toks:=s.toks+1+1 }):wpAny 'r' A (call (.builtin "len") [.ref d]) Q E s:=by
 have b:sizeLine=16777216:=sizeLine_eq;refine Calls.call_function_entry kind_len plain_len entry_len (args_len1 _) ?_;unfold Builtin.«len»;refine Ac (m:=oneArg "len" _) (Aj (Ac (wpAny_callSpecial?_slot (name:=Str.ofString "__len__") {_,g,rfl} F.slot_dict_len (tE a g ?_))));refine Ac (wpAny_holding (Aj (Ac (wpAny_letGo ?_))));have a:¬((es.size:Int)<0):=by omega
 have b:¬((es.size:Int)>=2 ^ 63):=by omega
 dsimp only;rw[if_neg a,if_neg b];exact Ac (wpAny_mkInt (Aj {_,rfl,h}))
section
variable{S:Type}
def xR:CA X (.builtin "len") (λe H Q=>∃(a:Addr) (b:List (List Ak×V)),e=[.ref a]/\H a=some (.dT b)/\b.length<=1000/\Q (.int b.length) H):=by
 intro c s Y H e d Q I r h;obtain⟨a,b,rfl,f,c,q⟩:=h;obtain⟨u,rfl,r1⟩:=bE r;cases r1;obtain⟨z,i,e,d,o,es,h,g,j,c,l,m⟩:=(show Bx X.prog X.w H s.heap a (.dT b) from I.hok a _ f);have m:o=BN es h:=by
  obtain⟨a,n,p,r⟩:=o;obtain⟨f,a,h⟩:=j;simp only at f a h c;subst f a h c;rfl
 subst m;have a:es.size=b.length:=by
  rw[<-Dz,l,Ai];exact(Paired.length d).symm
 have c:sizeLine=16777216:=sizeLine_eq;exact tF i g 'o' {.int b.length,H,I.tok _,{_,by rw[a]},q}
def Iu:List D->Option D
 | [.dct (.non::ks) _]=>if ks.length<=1000 then some (.int ks.length) else none
 | _=>none
open H in
def xS:Cp c (λu H Q=>∃(a:Addr) (b:List (List Ak×V)),u=[.ref a]/\H a=some (.dT b)/\b.length<=1000/\Q (.int b.length) H) Iu:=by
 intro l C H G d Q o z e q;unfold Iu at e;split at e
 ·rename_i B E
  split at e
  ·rename_i p
   cases e;obtain⟨v,r,i,x,m⟩:=aa.cons.mp z;obtain⟨a,y,A,_,F,n⟩:=Is.dct_iff.mp x;rw[aa.nil.mp m,A] at i;rcases n with⟨g,f,_,_⟩ | ⟨g,f,h,s⟩
   ·cases g with
    | nil=>cases f
    | cons k g=>cases k<;>cases f
   ·injection f with _ f
    subst f;have j:(g.zip y).length=(g.map AC).length:=by rw[List.length_zip,h,Nat.min_self,Ai,h]
    exact{a,_,i,s,by rw[j];exact p,by rw[j];exact q _ H Ah.refl o bD}
  ·cases e
 ·cases e
def Ad.froze(I:Ad X A0 Y H s)(a:H p=some u)(f:Mut (some u))(g:∃o,s.heap.get? p=some o):∃o,Ad X A0 Y (Af H p (.frz o u)) s:=by
 obtain⟨o,c⟩:=g;have d:∀b v,H b=some v->¬Mut (some v)->b≠p:=λb v e n z=>by subst z;rw[a] at e;cases e;exact n f
 exact{o,I.write (x:=p) (e:=p) (o:=.frz o u) (h':=s.heap) (t':=s.toks) (by rw[a];exact f) (.inl rfl) (λ_ _ _ e=>e) ⟨o,c⟩
  {c,(I.hok p u a).stay (λ_ _ _ e=>e) (λb e=>by rw[aj (d b _ e λz=>z)];exact e) λb a e=>by rw[aj (d b _ e λz=>z)];exact e}}
instance tFz(t:TE):TE:=λY H Q=>t Y H λv H'=>∃p u,v=.ref p/\H' p=some u/\((∃l,u=.lst l)\/∃l,u=.dT l)/\∀o,Q v (Af H' p (.frz o u))
def tH(h:PE X e t):PE X e (tFz t):=λa s Y H Q I q=>ag (h a s Y H _ I q) λv d hI52=>by
 obtain⟨x,H1,I1,r1,p,u,f,a,c,q1⟩:=hI52;have b:Mut (some u)/\∃o,d.heap.get? p=some o:=by
  have z:=I1.hok p u a;rcases c with⟨l,rfl⟩ | ⟨l,rfl⟩
  ·obtain⟨_,c,n,_,e⟩:=z;exact{trivial,_,e}
  ·obtain⟨_,_,_,_,o,_,_,e,_⟩:=z;exact{trivial,_,e}
 obtain⟨o,I2⟩:=I1.froze a b.1 b.2;exact{x,_,I2,r1,q1 o}
instance oFz:D->Option D
 | .lst l=>if D.immL l=true then some (.fl l) else none
 | .dct (.non::ks) l=>if D.immL l=true then some (.fd ks l) else none
 | _=>none
instance fFz(S:Type)(f:Fn S):Fn S:=λZ st=>(f Z st).bind λd st1=>Az (oFz d) st1
def hB{Z:Ag}{b:S}{Q:D->S->Prop}{E:AM->S->Prop}:Ab (fFz S f Z b) Q E↔Ab (f Z b) (λd a=>Ab (Az (oFz d) a) Q E) E:=ae
def lX{a:Addr->Prop}{H1:Hp}{p:Addr}{u o:HO}(c:H1 p=some u)(d:¬DL u):AW (λ_=>False) a H1 (Af H1 p o):=
 {λb v a e=>by rw[aj (λz=>by subst z;rw[c] at a;cases a;exact d e)];exact a,λ_ _ h=>h.elim}
open H in
def tJ(h:DE X c .F e f):DE X c g e (fFz S f):=(tH h).imp λY H Q hI53=>by
 obtain⟨Z,b,R,a,w⟩:=hI53;refine{Z,b,R,a,ak (ae.mp w) (λd a q v H1 j l z=>?_) λx a q=>q};obtain⟨d',d,q⟩:=au.mp q;have fin:∀(a:Addr) (u o:HO),H1 a=some u->¬DL u->v=.ref a->Av c Y Z a->H a=none->d'.mut=false->(∀p,Is c.K p (Af H1 a o) d' v)->Q v (Af H1 a o):=λa u o f ns c h s m i=>by
  refine q v _ (λb o' r n=>?_) (bv l h.1 f ns) ?_
  ·rw[aj (aF r s)];exact j b o' r n
  ·cases g with
   | R=>exact i _
   | B=>exact i _
   | F=>exact{i _,λ_ _ z=>by rw[m] at z;cases z}
 unfold oFz at d;split at d
 ·rename_i l
  split at d
  ·rename_i im
   cases d;obtain⟨a,b,c,h,f,i⟩:=Is.lst_iff.mp z.1;have ns:¬DL (.lst b):=λz=>by rcases z with⟨_,e⟩ | ⟨_,_,e⟩<;>cases e
   exact{a,_,c,f,.inl {_,rfl},λo=>fin a (.lst b) _ f ns c h (z.2 a c rfl) rfl λp=>Is.fl_iff.mpr {a,o,b,c,aw,(aa.ofImm im i).mono (lX f ns)}}
  ·cases d
 ·rename_i g l
  split at d
  ·rename_i im
   cases d;obtain⟨a,b,c,h,i,g⟩:=Is.dct_iff.mp z.1;rcases g with⟨l,j,_,_⟩ | ⟨g,n,m,f⟩
   ·cases l with
    | nil=>cases j
    | cons z r=>
      have:D.non=CC z:=(List.cons.inj j).1;cases z<;>cases this
   ·have ns:¬DL (.dT (g.zip b)):=λz=>by rcases z with⟨_,e⟩ | ⟨_,_,e⟩<;>cases e
    exact{a,_,c,f,.inr {_,rfl},λo=>fin a (.dT (g.zip b)) _ f ns c h (z.2 a c rfl) rfl λp=>Is.fd_iff.mpr {a,o,b,g,c,(List.cons.inj n).2,m,aw,(aa.ofImm im i).mono (lX f ns)}}
  ·cases d
 ·cases d
def Is.flSq{K:FG}{A:Addr->Prop}{H:Hp}{l:List D}{v:V}(h:Is K A H (.fl l) v):∃a b,v=.ref a/\AT K H a b/\aa K A H l b:=by
 obtain⟨a,o,b,e,s,i⟩:=Is.fl_iff.mp h;exact{a,b,e,.inl (.inr ⟨o,s⟩),i}
def Iv:D->D->Option D
 | .fl l,.int i=>im (BC l i)
 | _,_=>none
open H in
def tK{K:FG}(g:c.K=K):Bg c (rIx K) Iv:=by
 intro b a c e H i d Q h f b e q;unfold Iv at e;split at e
 ·rename_i l i
  obtain⟨a,c,j,s,z⟩:=Is.flSq f;obtain⟨e,m⟩:=df e;obtain⟨v,d,f⟩:=gq z e;exact .inl {a,c,i,v,j,Is.int_iff.mp b,g▸s,d,q v H Ah.refl h (AE.imm m f)}
 ·cases e
def Ht:List D->Option D
 | [.fl l]=>some (.int l.length)
 | _=>none
open H in
def tL{K:FG}(a:c.K=K):Cp c (λh H Q=>∃p b,h=[.ref p]/\(AT K H p b\/AN K H p b)/\Q (.int b.length) H) Ht:=by
 subst a;intro l c H g d Q f z e q;unfold Ht at e;split at e
 ·rename_i m
  cases e;obtain⟨v,r,c,j,d⟩:=aa.cons.mp z;obtain⟨a,l,m,i,g⟩:=Is.flSq j;rw[aa.nil.mp d,m] at c;exact{a,l,c,.inl i,by rw[<-g.length];exact q _ H Ah.refl f bD}
 ·cases e
def Hu(d k:D):Option D:=match d with
 | .fd ks vs=>(AG k).bind λkk=>im (Ar kk ks vs)
 | _=>none
open H in
def lY(L:X.A.units+2<cLine)(P:DE X c ga a fa)(h:DE X c gb b fb)(M:Ge b):DE X c g (.Subscript a b pos) (f2 S Hu fa fb):=by
 have J:Bg c (λx y H2 Q=>∃a v,x=.ref a/\BB H2 a y (some v)/\Q v H2) Hu:=by
  intro T p U W H Z d Q I F s e q;unfold Hu at e;split at e
  ·rename_i r u
   cases l:AG p with
   | none=>rw[l] at e;cases e
   | some f=>
     rw[l] at e;obtain⟨e,m⟩:=df (show im (Ar f r u)=some d from e);obtain⟨b,G,h,_⟩:=dh l s;obtain⟨a,o,O,N,R,z,B,C,i⟩:=Is.fd_iff.mp F;subst z G;rcases eU f B i with⟨j,n⟩ | ⟨d',v,j,n,E⟩
     ·rw[j] at e;cases e
     ·rw[j] at e;cases e
      exact{a,v,R,n▸(.inr {_,f,b,.inr ⟨o,C⟩,rfl,h,rfl}:BB H a (.ref b) (BY (N.zip O) f)),q v H Ah.refl I (AE.imm m E)}
  ·cases e
 exact(cD L P h M).imp λY H Q q=>cE (ga:=ga) (gb:=gb) J q
end
open PySem PySem.Spec PyProof PyProof.Rows PySem.SeqAt
section
variable{prog:Program}{w:World}{A:Around}{E:Value->Shared->Prop}{s:Shared}{X:Cx}{tg:Expr}
theorem lZ(e:t≠it):∀(n i:Nat) (s:Shared) (Q:List Value->Shared->Prop),s.heap.IsListIter it t i->s.heap.IsList t items->i+n<=items.size->
 (∀a,a.IsListIter it t (i+n)->Heap.SameBut it s.heap a->Q ((items.toList.drop i).take n) { s with heap:=a })->wpAny 'r' A (draw (.ref it) n) Q E s
 | 0,i,s,Q,a,_,_,h=>by
   show wpAny _ _ (pure []) Q E s;exact Aj (by simpa using h s.heap a (Heap.SameBut.refl ..))
 | n+1,i,s,Q,a,g,b,h=>by
   have f:i<items.size:=by omega
   show wpAny _ _ (pyNext (.ref it) >>= _) Q E s;refine Ac (wpAny_pyNext_list_item a g (x:=items[i]) (by simp[f]) λc b a=>?_);have d:c.IsList t items:=by obtain⟨o,c,r⟩:=g;exact{o,a.extBut t o e c,r}
   refine Ac (wpAny_holding (lZ e n (i+1) _ _ b d 'o' λg c e=>Aj ?_));have b:items.toList.drop i=items[i]::items.toList.drop (i+1):=by simp[GO,f]
   have:=h g (by rw[show i+(n+1)=i+1+n by omega];exact c) (a.trans e);rw[b,List.take_succ_cons] at this;exact this
def tM{x1}(i:A.handled=none)(b:s.heap.IsList t items)(d:(assignEach elts env).length=items.size)(a:(assignEach elts env).findIdx? (·.1)=none)(h:∀c,Heap.ExtBut s.heap.objs.size s.heap c->wpAny 'r' A (assignInOrder ((assignEach elts env).map (·.2)) items.toList) Q E { s with heap:=c }) :
 wpAny 'r' A (assign (.Tuple elts x1 pos) env (.ref t)) Q E s:=by
 have c:t≠s.heap.objs.size:=by obtain⟨o,e,_⟩:=b;exact Bf (Heap.lt_size e)
 rw[assign_Tuple];refine Ac (wpAny_standAt ?_);unfold unpack;rw[d,a];refine Ac (wpAny_holding ?_);unfold unpackItems;refine Ac ?_;unfold notIterableAtAll;refine Ac (wpAny_specialOf b.typeIs slot_list_iter.lookup ?_);refine Aj ?_;simp only[BV,if_false];refine Ac (wpAny_holding (wpAny_pyIter_list b ?_));have kp:∀{o:Obj},(s.heap.push o).IsList t items:=by obtain⟨o,e,r⟩:=b;exact{o,AH _ e,r}
 refine Ac (wpAny_holding (lZ c items.size 0 _ _ {_,AZ _ rfl,rfl,rfl} kp 'o' λf b a=>?_));have g:List.take items.size (List.drop 0 items.toList)=items.toList:=by
  rw[Fp];exact DR 'd'
 rw[g];rw[if_neg 'd'];have d:f.IsList t items:=by obtain⟨o,e,r⟩:=(kp:(s.heap.push _).IsList t items);exact{o,a.extBut t o c e,r}
 refine Ac (wpAny_holding (wpAny_pyNext_list_end i b d 'd' λf c=>?_));simp only[Option.isSome_none,BV,if_false];exact Aj (h f λb o d e=>c b o d (a.extBut b o d (AH _ e)))
abbrev Fy(d:Addr)(i n ep:Nat):Obj:={ cls:=.type "dict_valueiterator",dict:=none,data:=.fields #[.ref d,.int i 0,.int n 0,.int ep 0],slots:=#[] }
abbrev FX(d:Addr):Obj:={ cls:=.type "dict_values",dict:=none,data:=.fields #[.ref d],slots:=#[] }
def tN(a d:Addr)(i n b:Nat)(es:Array DictEntry)(e:DictEntry)(f:es.size=n)(c:es[i]?=some e) :
 Meets (Builtin.«dict_valueiterator.__next__» {[.ref a],[]}) (λ_ R s=>s.heap.get? a=some (Fy d i n b)/\s.heap.get? d=some (BN es b)/\R (.ok (.ret e.val)) { s with heap:=s.heap.update a (Obj.mapFields λx=>x.setIfInBounds 1 (rawInt ((i:Int)+1))),toks:=s.toks }):=
 .of_wp λprog w A R s h=>by
  obtain⟨b,g,j,a,d⟩:=s;obtain⟨f,b,h⟩:=h;wp_walk;have a:(if ((i:Nat):Int)<0 then none else es[((i:Nat):Int).toNat]?)=some e:=by rw[if_neg 'o',CH,c]
  simp only[a]
  wp_walk
  exact{_,rfl,h}
def tO(e d:Addr)(i n b:Nat)(es:Array DictEntry)(a:es.size=n)(j:n<=i)(f:A.handled=none)(a:s.heap.get? e=some (Fy d i n b))(a:s.heap.get? d=some (BN es b))(h:∀a c d,(∀b o,b≠e->s.heap.get? b=some o->c.get? b=some o)->(∃o,c.get? a=some o/\o.cls=.type "StopIteration")->E (.ref a) { s with heap:=c,toks:=d }) :
 wpAny 'r' A (Builtin.«dict_valueiterator.__next__» {[.ref e],[]}) R E s:=by
 obtain⟨a,g,e,d,c⟩:=s;wp_walk;have a:(if ((i:Nat):Int)<0 then none else es[((i:Nat):Int).toNat]?)=none:=by rw[if_neg 'o',CH,GT 'o']
 simp only[a]
 wp_walk
 unfold raiseNew;refine Ac (wpAny_handled ?_);rw[f];refine Ac (Aj (wpAny_throw (h _ _ _ (λb o a e=>?_) {_,AZ _ rfl,rfl})));exact AH _ (AH _ ((F5 _ _ (Ne.symm a)).trans e))
def tQ(v d:Addr)(es:Array DictEntry)(a:Nat) :
 Meets (Builtin.«dict_values.__iter__» {[.ref v],[]}) (λ_ R s=>s.heap.get? v=some (FX d)/\s.heap.get? d=some (BN es a)/\R (.ok (.ret (.ref s.heap.objs.size))) { s with heap:=s.heap.push (Fy d 0 es.size a),toks:=s.toks }):=
 .of_wp λprog w A R s h=>by
  obtain⟨a,g,e,b,c⟩:=s;obtain⟨a,d,h⟩:=h;wp_walk;exact{_,rfl,h}
def tR(d:Addr)(es:Array DictEntry)(a:Nat)(b:(d == sysModules)=false) :
 Meets (Builtin.«dict.values» {[.ref d],[]}) (λ_ R s=>s.heap.get? d=some (BN es a)/\R (.ok (.ret (.ref s.heap.objs.size))) { s with heap:=s.heap.push (FX d),toks:=s.toks }):=
 .of_wp λprog w A R s h=>by
  obtain⟨a,g,d,b,c⟩:=s;obtain⟨a,h⟩:=h;wp_walk;exact{_,rfl,h}
open H in
def tT{i n a:Nat}(l:es.size=n)(m:es[i]?=some e)(f:s.heap.get? it=some (Fy d i n a))(j:s.heap.get? d=some (BN es a))(h:∀c g,c.get? it=some (Fy d (i+1) n a)->(∀b o,b≠it->s.heap.get? b=some o->c.get? b=some o)->Q (some e.val) { s with heap:=c,toks:=g }):wpAny 'r' A (pyNext (.ref it)) Q E s:=by
 have g:s.TypeIs (.ref it) "dict_valueiterator":={_,f,rfl};have c:=GV (Obj.mapFields λx=>x.setIfInBounds 1 (rawInt ((i:Int)+1))) f rfl;unfold pyNext;exact Ac (wpAny_attempt (wpAny_callSpecial?_slot (name:=Str.ofString "__next__") g F.slot_dict_valueiterator_next (call_meets F.slot_dict_valueiterator_next g F.entry_dict_valueiterator_next (F.args_dict_valueiterator_next_1 _) (tN it d i n a es e l m)
  {f,j,Aj (h _ _ c λb o a g=>(F5 _ _ (Ne.symm a)).trans g)})))
open H in
def tU{i n a:Nat}(l:A.handled=none)(p:es.size=n)(m:n<=i)(f:s.heap.get? it=some (Fy d i n a))(j:s.heap.get? d=some (BN es a))(h:∀c e,(∀b o,b≠it->s.heap.get? b=some o->c.get? b=some o)->Q none { s with heap:=c,toks:=e }):wpAny 'r' A (pyNext (.ref it)) Q E s:=by
 have g:s.TypeIs (.ref it) "dict_valueiterator":={_,f,rfl};unfold pyNext;refine Ac (wpAny_attempt (wpAny_callSpecial?_slot (name:=Str.ofString "__next__") g F.slot_dict_valueiterator_next (C3 F.slot_dict_valueiterator_next g F.entry_dict_valueiterator_next (tO it d i n a es p m (A:=A.in1) l f j λa c e d g=>?_) (F.args_dict_valueiterator_next_1 _))));exact Ac (wpAny_isInstance (T:="StopIteration") (b:=true) g isSubtype_stop (Aj (h _ _ d)))
instance Itv(ob:Obj)(a:Addr)(kvs:List (List Ak×V)):It:=
 {λi H=>H a=some (.frz ob (.dT kvs))/\i<kvs.length,λi H x H'=>H'=H/\(kvs[i]?).map (·.2)=some x,λi H=>H a=some (.frz ob (.dT kvs))/\kvs.length<=i}
def KA(to:TE):TI:=λY H R=>to Y H λx H1=>∃a ob kvs,x=.ref a/\H1 a=some (.frz ob (.dT kvs))/\R (Itv ob a kvs) H1
theorem l0{α β:Type}{F:α->β->Prop}:∀{l:List α} {m:List β} {i:Nat} {x:α},Paired F l m->l[i]?=some x->∃y,m[i]?=some y/\F x y
 | _,_,i,x,.nil,e=>by simp at e
 | _,_,0,x,.cons h _,e=>{_,rfl,by cases e;exact h}
 | _,_,i+1,x,.cons _ t,e=>l0 (i:=i) t (by simpa using e)
def hD{P:Program}{w:World}{H:Hp}{h:Heap}{a:Addr}{c:Obj}{b:List (List Ak×V)}(z:Bx P w H h a (.frz c (.dT b))):(a == sysModules)=false/\∃(es:Array DictEntry) (d:Nat),c=BN es d/\h.get? a=some (BN es d)/\es.size=b.length/\∀(i:Nat) (p:List Ak×V),b[i]?=some p->∃e,es[i]?=some e/\An p.2 e.val:=by
 obtain⟨g0,_,l,e,c,o,es,d,g,m,a,f,e⟩:=z;have n:o=BN es d:=by
  obtain⟨e,j,q,r⟩:=o;obtain⟨h,e,j⟩:=m;simp only at h e j a;subst h e j a;rfl
 subst n;rw[g0] at g;cases g;have a:=Paired.length c;refine{l,es,d,rfl,g0,by rw[<-Dz,f,Ai];exact a.symm,λi p e=>?_};obtain⟨q,d,_,_,a⟩:=l0 c e;refine{entryOfKey (D1 P w) q,?_,a};rw[<-FC,f,AX,d];rfl
def tV{P:Program}{w:World}{K:FG}{es:Array DictEntry}{b:Nat}{a j:Addr}{f:List (List Ak×V)}:Ev P w K tg (Itv (BN es b) a f) [j] j (λi h=>h.get? j=some (Fy a i es.size b)) where
 mem:=by simp
 obj:=λi h c b d=>by
  have e:b=j:=by simpa using d
  subst e;exact{_,c,λv z=>by cases z}
 keep:=λi h p c k=>k j 'd' _ c
 item:=by
  intro X C v L P i O s Y H E I q c F;subst C v L;obtain⟨J,z⟩:=F;obtain⟨_,M,u,x,g,Q,m⟩:=hD (I.hok a _ J);cases x;obtain⟨e,o,R⟩:=m i f[i] (Ba z);obtain⟨G,r,f2,N,B,y⟩:=q j 'd';refine tT rfl o c g λp l n kp=>?_
  have I1:Ad X O Y H { s with heap:=p,toks:=l }:=I.turned (t':=l) (λb o d e=>kp b o d e) G r N B y;exact{_,rfl,eB (s:={ s with heap:=p,toks:=l }) n rfl rfl 'z' {f[i].2,H,I1,R,{rfl,by rw[Ba z];rfl},n,λb d=>(q b d).1}}
 done:=by
  intro X C v L P i O s Y H E I q c F;subst C v L;obtain⟨J,z⟩:=F;obtain⟨_,M,u,x,g,Q,m⟩:=hD (I.hok a _ J);cases x;obtain⟨G,r,f2,N,B,y⟩:=q j 'd';exact tU (I.ok.hd P) rfl 'o' c g λp l kp=>{rfl,I.turned (t':=l) (λb o d e=>kp b o d e) G r N B y}
 self:=λ_ _ _ _ _ c h=>wpAny_pyIter_valiter {_,c,rfl,rfl} h
def tW{o:Expr}{e:TE}{b a:Pos}(g:PE X o e)(c:autoParam (attributeBase o "values" X.env (eval o X.env)=eval o X.env) uR)(d:autoParam ((b.endLine == a.line)=true) uR):PI X tg (.Call (.Attribute o "values" b) [] [] a) (KA e):=by
 intro f s Y H R I h;refine wpAny_Call_method0_late c d (ag (g f s Y H _ I h) λv c hI130=>?_);obtain⟨x,H1,I1,r1,a,d,b,e,h,q⟩:=hI130;subst e;cases r1;obtain⟨i,es,d,b,g,j,e⟩:=hD (I1.hok a _ h);subst b;refine{"dict","dict.values",PySem.F.plainAttrs_dict,PySem.F.slot_dict_values,PySem.F.type_dict_values,{_,g,rfl},λb e=>by cases e;exact{_,g,rfl},?_};refine Calls.callWith_builtin rfl (PySem.evalArgs_none (call_meets PySem.F.slot_dict_values {_,g,rfl} PySem.F.entry_dict_values (PySem.F.args_dict_values_1 _) (tR a es d i) {g,?_}));have h:(c.heap.push (FX a)).get? c.heap.objs.size=some (FX a):=AZ _ rfl;have i:Shared.TypeIs { c with heap:=c.heap.push (FX a) } (.ref c.heap.objs.size) "dict_values":={_,h,rfl};refine wpAny_pyIter_slot i F.slot_dict_values_iter (call_meets F.slot_dict_values_iter i F.entry_dict_values_iter (F.args_dict_values_iter_1 _) (tQ _ a es d) {h,AH _ g,"dict_valueiterator",_,{_,AZ _ rfl,rfl},F.slot_dict_valueiterator_next.lookup,?_});have I2:Ad X f Y H1 { c with heap:=c.heap.push (FX a),toks:=c.toks }:=I1.kept (t':=c.toks) λb o e=>AH _ e
 refine{_,[_],_,_,H1,rfl,I2.kept (t':=c.toks) λb o e=>AH _ e,tV,AZ _ rfl,λb a=>?_,q};have e:=A8.mp a;subst e;exact I2.fpOk (Al _) (I2.hok.fresh (Al _))
def KB(K:FG)(n:Nat)(t:TGs):TG:=λv Y H Q=>∃a xs,v=.ref a/\AT K H a xs/\xs.length=n/\t xs Y H Q
def tX{k:Nat}{n:Nat}(o:X.calm=true)(h:PGs X es t)(i:autoParam ((assignEach es X.env).length=n) uR)(b:autoParam ((assignEach es X.env).findIdx? (·.1)=none) uR):PG X (.Tuple es k pos) (KB X.K n t):=by
 intro d s Y H v u Q I r c;obtain⟨a,f,j,l,e,c⟩:=c;subst j;cases r;obtain⟨m,a,g,n⟩:=I.list l;refine tM (I.ok.hd o) g.isList (by simp[i,<-e,a.length]) b λi g=>?_
 have I1:Ad X d Y H { s with heap:=i }:=I.kept (t':=s.toks) λb o e=>g b o (Bf (Heap.lt_size e)) e
 exact h d _ Y H f _ Q I1 (by simpa using a) c
def KC(K:FG):V->List V->Hp->VK->Prop:=λx vs H Q=>∃(p:Addr) (ns:List Int) (k:Int),x=.ref p/\vs=[.int k]/\AT K H p 'k'/\ns.length<=1000/\k∈ns/\Q (.int (ns.idxOf k:Nat)) H
def tY:MtM X "list.index" (KC X.K):=by
 intro a s Y H x b v d Q I a c h;obtain⟨p,ns,k,rfl,rfl,b,d,i,q⟩:=h;cases a;obtain⟨u,rfl,t,rfl⟩:=c.one;obtain⟨a,r,pl,d⟩:=I.list b;have c:IntsAre a ns:=oF r;have b:=c.length;have e:ns.idxOf k<ns.length:=List.idxOf_lt_length_iff.mpr i;obtain⟨⟨d,l,f,j⟩,g,h,n,d⟩:=pl.isList;simp only at h d;subst h d;refine call_meets PySem.F.slot_list_index {_,g,rfl} PySem.F.entry_list_index (PySem.F.args_list_index_2 _ _)
  (list_indexAt p a.toArray n l j (.int k t) (isInt k) (ns.idxOf k) (by simpa [b] using e) 'o' ?_ ?_) {g,λy b=>(eq_isInt k t c y (by simpa using b)).at _ _,.int _,H,I.tok _,{_,rfl},q}
 ·show isInt k a[ns.idxOf k]=true
  rw[isInt_at k c _ 'o' e];simpa using List.getElem_idxOf e
 ·intro j d b
  show isInt k a[j]=false;rw[isInt_at k c j (by simpa using d) 'o'];exact ne_of_lt_idxOf b _
end
section
variable{X:Cx}{S:Type}{W:Wd S}{c:Dx W}{g:Gr}
instance D.fd?:D->Option (List D)
 | .fd _ l=>some l
 | _=>none
def tZ(h:DE X c .B o f)(b:autoParam (attributeBase o "values" X.env (eval o X.env)=eval o X.env) uR)(n:autoParam ((apos.endLine == cpos.line)=true) uR) :
 DI X c tg (.Call (.Attribute o "values" apos) [] [] cpos) (Ew S D.fd? f):=
 (tW h b n).imp λY H R hI54=>by
  obtain⟨Z,st,R0,ok,w⟩:=hI54;refine{Z,st,R0,ok,ak (ae.mp w) (λd u q v H1 e A z=>?_) λx u q=>q};obtain⟨l,J,q⟩:=au.mp q;cases d with
  | fd ks m=>
    cases J;obtain⟨a,F,p,r,ev,_,el,s,i⟩:=Is.fd_iff.mp z;have I:(r.zip p).length=p.length:=by rw[List.length_zip,el,Nat.min_self]
    refine{a,F,_,ev,s,q _ H1 e A ?_};intro P hK' O Q H2 T k R2 U j;have E:=k.frz a F _ s;have C:aa c.K (Av P O Q) H2 l p:=i.mono k;refine{λd M=>?_,λh=>{E,by rw[I,<-C.length];exact h}};obtain⟨G,L,iv⟩:=C.get M;have hj:j<p.length:=(Bd.mp L).1;have hz:((r.zip p)[j]?).map (·.2)=some G:=by
     have N:(r.zip p)[j]?=some (r[j]'('o'),G):=List.getElem?_zip_eq_some.mpr {Ba 'o',L};rw[N]
     all_goals rfl
    exact{{E,by rw[I];exact hj},λx H3 hI55=>by
     obtain⟨e3,y⟩:=hI55;subst e3;rw[hz] at y;cases y;exact{Ch.refl _,iv}}
  | _=>cases J
instance gF(n:Nat)(Gs:EK):BD:=λd Z=>match d with
 | .fl l=>if l.length=n then Gs l Z else none
 | _=>none
open H in
def t0{k:Nat}{n:Nat}(d:X.calm=true)(p:c.K=X.K)(h:DGs X c es Gs)(b:autoParam ((assignEach es X.env).length=n) uR)(a:autoParam ((assignEach es X.env).findIdx? (·.1)=none) uR):DG X c (.Tuple es k pos) (gF n Gs):=
 (tX d h b a).imp λv Y H Q hI56=>by
  obtain⟨Z,d,b,j,R,f,z,e,q⟩:=hI56;cases d with
  | fl l=>
    obtain⟨a,m,o,i,d⟩:=Is.flSq z;have e:(if l.length=n then Gs l Z else none)=some b:=e;split at e
    ·rename_i h
     exact{a,m,o,by rw[<-p];exact i,by rw[<-d.length];exact h,Z,l,b,j,R,f,d,e,q}
    ·cases e
  | _=>cases e
def GA(l:List D)(x:D):Option D:=match x with
 | .int k=>(EN l).bind λns=>if ns.length<=1000/\k∈ns then some (.int (ns.idxOf k:Nat)) else none
 | _=>none
def JF(S:Type)(fa fb:Fn S):Fn S:=λZ st=>(fa Z st).bind λd1 st1=>match d1 with
 | .lst l=>(fb Z st1).bind λd2 st2=>Az (GA l d2) st2
 | _=>.bad
def t5{b d:Fn S}{Z:Ag}{f:S}{Q:D->S->Prop}{E:AM->S->Prop}:Ab (JF S b d Z f) Q E↔Ab (b Z f) (λe a=>∃l,e=.lst l/\Ab (d Z a) (λh b=>∃d,GA l h=some d/\Q d b) E) E:=aQ λe a=>by
 cases e with
 | lst l=>
   constructor
   ·intro h;exact{l,rfl,ak (ae.mp h) (λ_ _ q=>au.mp q) λ_ _ q=>q}
   ·rintro ⟨a,e,h⟩
    cases e;exact ae.mpr (ak h (λ_ _ q=>au.mpr q) λ_ _ q=>q)
 | _=>exact{λh=>h.elim,λ⟨a,e,_⟩=>by cases e}
open H in
def xT(a:c.K=X.K)(i:DE X c ga o fa)(j:DE X c gb e fb)(b:autoParam (attributeBase o "index" X.env (eval o X.env)=eval o X.env) uR)(f:autoParam (((backTo cpos (starEach [e] X.env)).all (λx=>!x.1)&&(backToKw cpos (keywordEach [] X.env)).all (λx=>x.1.isSome)
  && decide (([e]:List Expr).length+([]:List Keyword).length+(if ([]:List Keyword).isEmpty then 0 else 1)<30))=true) uR)(d:autoParam ((apos.endLine == cpos.line)=true) uR)(h:autoParam (starEach [e] X.env=(false,eval e X.env)::starEach [] X.env) uR)(a:autoParam ((backTo cpos (starEach [] X.env)).any (·.1)=false) uR) :
 DE X c g (.Call (.Attribute o "index" apos) [e] [] cpos) (JF S fa fb):=
 (cw PySem.F.plainAttrs_list PySem.F.slot_list_index PySem.F.type_list_index tY i (bp j bu h) b f d h a).imp λY H Q hI57=>by
  obtain⟨Z,a,R,m,w⟩:=hI57;refine{Z,a,R,m,ak (ae.mp w) (λd a q e H1 j f b=>?_) λx a q=>q};cases d with
  | lst l=>
    obtain⟨p,r,rfl,y,o,u⟩:=Is.lst_iff.mp b.toR;refine{.inl {rfl,r,.of o},Z,a,R.ext m j,f,ak (ae.mp q) (λb a q2 s H2 i e v=>?_) λx a q H2 i e=>q H2 (j.trans i) e};obtain⟨d',d,q2⟩:=au.mp q2;cases b with
    | int k=>
      cases n:EN l with
      | none=>unfold GA at d;rw[n] at d;cases d
      | some ns=>
        unfold GA at d;rw[n] at d;have d:(if ns.length<=1000/\k∈ns then some (D.int (ns.idxOf k:Nat)) else none)=some d':=d;split at d
        ·rename_i h
         cases d;have l:AW 'w' 'w' H1 H2:=i.keepT f λb a=>⟨a,a⟩
         have x:Is c.K 'w' H2 (.int k) s:=v.toR;have a:AT X.K H2 p r:=.of (l.nod p _ y o).2;rw[kA n u] at a;exact{p,ns,k,rfl,by rw[Is.int_iff.mp x],a,h.1,h.2,q2 _ _ (j.trans i) e (((bD:AE c H2 H2 (.int (ns.idxOf k:Nat)) (.int (ns.idxOf k:Nat))).val ((R.ext m j).ext f i) g).back (j.trans i) e)}
        ·cases d
    | _=>cases d
  | _=>exact(show False from q).elim
end
end L2
namespace HT
open PySem PyProof PyProof.Rows Ts
section
variable{prog:Program}{w:World}{A:Around}{R:Result->Shared->Prop}{I:Addr}{fp wr:List Addr}{n:Nat}{P:Nat->Value->Prop}{St:Nat->Heap->Prop}{base:Heap}{E:Value->Shared->Prop}{s:Shared}
end
end HT
namespace L2
open PySem PySem.Spec PyProof PyProof.Rows Ts
section
variable{X:Cx}{S:Type}{W:Wd S}{c:Dx W}
end
end L2
namespace PySem
def t6(a b:Addr)(n p:Array Value) :
 Meets (Builtin.«zip.__new__» {[.type "zip",.ref a,.ref b],[]}) (λ_ R s=>s.heap.IsTuple a n/\s.heap.IsTuple b p/\
  R (.ok (.ret (.ref (zB2 "tuple_iterator" "tuple_iterator" s.heap a b).objs.size))) { s with heap:=Cw "tuple_iterator" "tuple_iterator" s.heap a b }):=
 .of_wp λprog w A R s h=>by
  obtain⟨m,g,d,j,l⟩:=s;obtain⟨e,c,h⟩:=h;have i:=sub_zip;have f:Heap.IsTuple (Shared.heap ⟨m,g,d,j,l⟩) a n:=e;have i:Heap.IsTuple (Shared.heap ⟨m.push { cls:=.type "tuple_iterator",data:=.fields #[.ref a,.int 0 0] },g,d,j,l⟩) b p:=c.at λo e=>AH _ e
  wp_walk using wpAny_pyIter_tuple f,wpAny_pyIter_tuple i
  exact{_,rfl,h}
section
variable{prog:Program}{w:World}{A:Around}{E:Value->Shared->Prop}{s:Shared}
def l3{a b:Addr}{c d:String}{Q:Value->Shared->Prop}{K:(Result->Shared->Prop)->Shared->Prop}(m:Meets (Builtin.«zip.__new__» {[.type "zip",.ref a,.ref b],[]}) (λ_ R s=>K R s))(f:∀R,R (.ok (.ret (.ref (zB2 c d s.heap a b).objs.size))) { s with heap:=Cw c d s.heap a b }->K R s)(h:Q (.ref (s.heap.objs.size+4)) { s with heap:=Cw c d s.heap a b }):wpAny 'r' A (call (.type "zip") [.ref a,.ref b]) Q E s:=by
 refine callType_new F.called_zip 'z' (F.typeCall_zip_2 _ _) (F.newCall_zip_2 _ _) (λe=>F.args_object_init_3 e _ _) F.entry_zip_new m (f _ ?_);obtain⟨q,_⟩:=gO c d s.heap a b;show _/\_;rw[(kU c d s.heap a b).2.2];exact{{_,q,rfl},h}
end
end PySem
namespace L2
section
variable{X:Cx}{elts:List Expr}{x1:Nat}{tpos:Pos}{S:Type}{W:Wd S}{c:Dx W}{A0:List 'p'}{Y:St}{H:Hp}{s:Shared}
def KD(ta:TA):TI:=λY H R=>ta Y H λvs H1=>∃a b xs ys,vs=[.ref a,.ref b]/\((H9 a b H1 xs ys/\R (Izp (H9 a b)) H1)\/(Im a b H1 xs ys/\R (Izp (Im a b)) H1))
def t8{b a:Expr}{d:TA}{p pos:Pos}(f:Gl X "zip")(i:X.mg "zip" = none)(j:PA X [b,a] d)(g:autoParam (starEach [b,a] X.env=(false,eval b X.env)::starEach [a] X.env) uR)(e:autoParam (starEach [a] X.env=[(false,eval a X.env)]) uR):PI X (.Tuple elts x1 tpos) (.Call (.Name "zip" p) [b,a] [] pos) (KD d):=by
 intro A0 s Y H R I h;refine Call_ (cY I f i boot_zip (PyProof.Rows.callWith_type1 (ag (j pos A0 s Y H _ I h) λi d hI131=>?_) g (by rw[e];rfl)));obtain⟨g,H1,I1,r1,q1⟩:=hI131;obtain⟨a,b,e,f,rfl,q⟩:=q1;cases r1 with
 | cons r e=>
   cases e with
   | cons r' e=>
     cases e;cases r;cases r';have u:=qH d.heap.objs.size;have r:∀b∈[d.heap.objs.size+4,d.heap.objs.size+2,d.heap.objs.size+3,d.heap.objs.size,d.heap.objs.size+1],CS X A0 H1 b:=λb f=>I1.fpOk (kr f) (I1.hok.fresh (kr f))
     rcases q with⟨e,q⟩ | ⟨e,q⟩
     ·obtain⟨i,x,o,_⟩:=I1.tuple (AN.of e.1)
      obtain⟨g,v,h,_⟩:=I1.tuple (AN.of e.2);refine l3 (t6 a b i.toArray g.toArray) (λ_ z=>⟨o,h,z⟩) ?_;obtain⟨f,l,p,m,j,n⟩:=gO "tuple_iterator" "tuple_iterator" d.heap a b;refine wpAny_pyIter_zip (s:={ d with heap:=Cw "tuple_iterator" "tuple_iterator" d.heap a b }) f ?_;exact{_,_,_,_,H1,rfl,I1.kept (t':=d.toks) n,kq qG u,{f,l,{_,_,p},{_,m,rfl,rfl},{_,j,rfl,rfl}},r,q}
     ·obtain⟨i,x,o,_⟩:=I1.tuple (AN.of e.1)
      obtain⟨g,v,h,_⟩:=I1.list (AT.of e.2);refine l3 (rq a b i.toArray g.toArray) (λ_ z=>⟨o,h.isList,z⟩) ?_;obtain⟨f,l,p,m,j,n⟩:=gO "tuple_iterator" "list_iterator" d.heap a b;refine wpAny_pyIter_zip (s:={ d with heap:=Cw "tuple_iterator" "list_iterator" d.heap a b }) f ?_;exact{_,_,_,_,H1,rfl,I1.kept (t':=d.toks) n,kq rs u,{f,l,{_,_,p},{_,m,rfl,rfl},{_,j,rfl,rfl}},r,q}
def Iw:List D->Option (List D)
 | [.tup l,.tup m]=>some (EM l m)
 | [.tup l,.lst m]=>some (EM l m)
 | _=>none
open H in
def xU(e:Gl X "zip")(i:X.mg "zip" = none)(b:DB X c [g,d] f)(h:autoParam (starEach [g,d] X.env=(false,eval g X.env)::starEach [d] X.env) uR)(a:autoParam (starEach [d] X.env=[(false,eval d X.env)]) uR):DI X c (.Tuple elts x1 tpos) (.Call (.Name "zip" p) [g,d] [] pos) (Fu S Iw f):=
 (t8 e i b h a).imp λY H R hI58=>by
  obtain⟨Z,e,b,a,w⟩:=hI58;refine{Z,e,b,a,ak (ae.mp w) (λl a q b H1 e n z=>?_) λx a q=>q};obtain⟨m,g,q⟩:=au.mp q;unfold Iw at g;split at g
  ·rename_i l m
   cases g;obtain⟨v,r,d,u,f⟩:=aa.cons.mp z;obtain⟨v',r',B,f,x⟩:=aa.cons.mp f;obtain⟨a,o,y,s0,i⟩:=Is.tup_iff.mp u;obtain⟨b,p,A,h,j⟩:=Is.tup_iff.mp f;rw[B,aa.nil.mp x,y,A] at d;exact{a,b,o,p,d,.inl {⟨s0,h⟩,q _ H1 e n (kw (λE C F H2 k=>{k.tup a o s0,k.tup b p h}) i j)}}
  ·rename_i l m
   cases g;obtain⟨v,r,d,u,f⟩:=aa.cons.mp z;obtain⟨v',r',B,f,x⟩:=aa.cons.mp f;obtain⟨a,o,y,s0,i⟩:=Is.tup_iff.mp u;obtain⟨b,p,A,l,h,j⟩:=Is.lst_iff.mp f;rw[B,aa.nil.mp x,y,A] at d;exact{a,b,o,p,d,.inr {⟨s0,h⟩,q _ H1 e n (kw (λE C F H2 k=>{k.tup a o s0,(k.nod b _ l h).2}) i j)}}
  ·cases g
def JG(S:Type)(l:List D):Es S:=λ_ st=>.ok l st
def l4{S:Type}{l:List D}{Z:Ag}{a:S}{Q:List D->S->Prop}{E:AM->S->Prop}:Ab (JG S l Z a) Q E↔Q l a:=wp_ok
theorem l5{K:FG}{A:Addr->Prop}{H:Hp}:∀l:List Str,aa K A H (l.map D.str) (l.map V.str)
 | []=>aa.nil.mpr rfl
 | _::l=>aa.cons.mpr {_,_,rfl,Is.str_iff.mpr rfl,l5 l}
def xV{x:Str}{l:List Str}{p a pos:Pos}(h:∃a0,X.mg x=some (.ref a0)/\FrT X.K a0 (l.map V.str))(g:Gl X x)(e:Gl X "enumerate")(i:X.mg "enumerate" = none)(b:autoParam 'u' uD)(f:autoParam (starEach [Expr.Name x a] X.env=[(false,eval (Expr.Name x a) X.env)]) uR) :
 DI X c (.Tuple elts x1 tpos) (.Call (.Name "enumerate" p) [.Name x a] [] pos) (JG S (D5 0 (l.map D.str))):=by
 obtain⟨a0,d,a⟩:=h;refine(jV e i (bp (fO (v:=.ref a0) g d rfl b) bu) f).imp λY H R hI132=>?_
 obtain⟨Z,e,d,b,w⟩:=hI132;exact{a0,l.map V.str,rfl,a.sq,l4.mp w _ H Ah.refl b (eN (λ_ _ _=>a.sq) (l5 l))}
end
instance LnQ(F:List Value->Prop):List Str->List Value->Prop
 | [],v=>F v
 | _::p,v=>∀x,LnQ F p (v++[x])
theorem LnQ.of{F:List Value->Prop}:∀{p:List Str} {v u:List Value},LnQ F p v->u.length=p.length->F (v++u)
 | [],v,[],h,_=>by rw[C8];exact h
 | _::_,v,u::a,h,e=>by have:=LnQ.of (h u) (Nat.succ.inj e);rwa [Cd] at this
instance At(K:FG)(x:Str)(st:Stmt):Prop:=∃f fd,nsIn K mainGlobals x=some (some (.ref f))/\CL K x x st f fd
def GB(x:Str)(st:Stmt)(ps:List Str):Prop:=∀(kV doc pm:Value) (an:Option Addr) (cdv ct:Value),LnQ (λus=>bindArgs (fnOf x x (E1 st) (Co st) (A9 st) .none kV doc pm an cdv ct) {us,[]}=pure (ps.zip us)) ps []
def GB.of{x:Str}{c:Stmt}{d:List Str}(h:GB x c d)(kV b i:Value)(g:Option Addr)(a j:Value)(f:List Value)(e:f.length=d.length):bindArgs (fnOf x x (E1 c) (Co c) (A9 c) .none kV b i g a j) {f,[]}=pure (d.zip f):=LnQ.of (h kV b i g a j) e
section
variable{K:FG}{h:Heap}{mg:Str->Option Value}{x:Str}{st:Stmt}{N ps:List Str}{k j:Nat}{P:Program}{w:World}{base:Heap}{sp:Sp}
def Dq.up(C:Dq P w K mg base k x ps sp)(g:autoParam (k<=j) uD):Dq P w K mg base j x ps sp:=by
 obtain⟨f,e,a,b,c,d⟩:=C.ex;exact{f,e,a,b,c,d.mono g}
def aM(P:Program)(w:World)(base:Heap)(X:K.In h)(G:h.Ns mainGlobals mg){B:Ay Unit}(a:At K x st)(S:D2 N ps (A9 st))(e:∀(f:Addr) (c:Value) (A:Around) (b:List Env) (s:Shared) (H:Hp) (E:XK),Bc k (A.deeper (envOfC x (A9 st) s.heap.objs.size f c))->CM (Do CX0 P w K mg base N x (A9 st) f c A b s H E).nox (cx0 K H) (Co st) B)(g:autoParam (GB x st ps) z0e._auto_1) :
 Dq P w K mg base (k+1) x ps (sp0 K (Bj N.length ps.length B)):=by
 obtain⟨f,d,n,F⟩:=a;exact{f,d,mg_of X G n,F.kp,F.binds g.of,CL.d0 F S λc A b s H E a=>e f c A b s H E a}
def bX{b:Type}{W:Wd b}(P:Program)(w:World)(base:Heap)(X:K.In h)(G:h.Ns mainGlobals mg){B:Ay b}(a:At K x st)(S:D2 N ps (A9 st))(g:∀(f:Addr) (c:Value) (A:Around) (b:List Env) (s:Shared) (H:Hp) (E:XK),Bc k (A.deeper (envOfC x (A9 st) s.heap.objs.size f c))->CM (Do CX0 P w K mg base N x (A9 st) f c A b s H E).nox (cxS W K H) (Co st) B)(d:autoParam (GB x st ps) z0e._auto_1) :
 Dq P w K mg base (k+1) x ps (spS W K (CU N.length ps.length B)):=by
 obtain⟨f,e,n,F⟩:=a;exact{f,e,mg_of X G n,F.kp,F.binds d.of,CL.dS F S λc A b s H E a=>g f c A b s H E a}
def l6(P:Program)(w:World)(base:Heap)(X:K.In h)(G:h.Ns mainGlobals mg)(a:At K x st)(d:∀f b,CL K x x st f b->Cn P w K mg base CX0 k f b ps sp)(c:autoParam (GB x st ps) z0e._auto_1):Dq P w K mg base k x ps sp:=by
 obtain⟨f,b,n,F⟩:=a;exact{f,b,mg_of X G n,F.kp,F.binds c.of,d f b F}
end
end L2
section
open L2
local macro_rules
 |`(tactic|simp?! [$ls,*])=>do
  let x:=("wp_ok wp_bad wp_some wp_none wp_sNil wp_sSet wp_sSetB wp_sAsg wp_sPar wp_sIf wp_sRet wp_sRetV wp_sMt wp_sBad wp_sAug wp_fC wp_fV wp_fVk wp_fI wp_f2 wp_fA wp_aNil wp_aCons wp_fCall wp_fCallS wp_fAndV wp_fNotV wp_fIfE wp_fNeg wp_fCut wp_pNo wp_pSo wp_iSeq wp_iArgs wp_fComp wp_fB wp_fAnd wp_fOr wp_fNot wp_fTrue wp_sPar3 wp_sItem wp_sDPut wp_fChain wp_fDisp wp_sTab2 wp_fGet wp_sFor wp_fP wp_aP wp_tP own? frz frz1 AO gN gT Bp BR D.seq? D.immL az aA aB aC aG aD aE ah ay aq aH ai Bh Bi Bu g0 gS s0 sS lC lN rd putN put im kp vr cn o2 cs nl o1 ti tb boS dbb rl0_ rl1_ rl2_ rl3_ rl4_ rl5_ rl6_ rl7_ rl8_ rl9_ EV_ Nat.reduceAdd Nat.reduceLT Nat.reduceLeDiff Nat.reduceSub reduceIte".splitOn " ").toArray.map λn=>Lean.mkIdent n.toName
  `(tactic|try simp only[$[$x:term],*,$ls,*])
set_option hygiene false
open Lean in
def m_W(n:Name):MacroM (TSyntax `tactic):=`(tactic|with_reducible refine $(mkIdent n) _ _ ?_)
local macro_rules
 |`(tactic|simp_all!)=>do
  `(tactic|((try $(←m_W `hN_):tactic);with_reducible refine sH fun P_ hN_ hR_ hB_ hC_=>?_))
 |`(tactic|simp!)=>`(tactic|simp! [wp_ok])
 |`(tactic|simp! [$ls,*])=>do
  let a←m_W `hN_
  let s←`(tactic|simp?! [$ls,*])
  `(tactic|((try $a:tactic);$s;(repeat first|$a:tactic|$(←m_W `hR_):tactic|$(←m_W `hB_):tactic|$(←m_W `hC_):tactic);$s))
set_option hygiene true
namespace K35
open L2
instance top(i:Nat):Stmt:=PySem.Challenge.pw_slidehall_k35_where_stands_are_unlike.main.body.getD i (.Pass {0,0,0,0})
structure Cst(K:FG)(mg:Str->Option Value):Prop where
 ok:True
 WALL:∃t,mg "WALL" = some (.int (-1) t)
 STEPS:∃a0,mg "STEPS" = some (.ref a0)/\Ig K a0 [(1,0),(0,1),(-1,0),(0,-1)]
 KEPT_WORDS:∃a0,mg "KEPT_WORDS" = some (.ref a0)/\FrT K a0 [.str "sides",.str "lines",.str "ring",.str "sign"]
abbrev JH:Stmt:=top 30
abbrev KF:List Str:=["_law_script","_law_cells"]
def hE:D2 KF ["_law_script"] (A9 JH):=by and_intros
abbrev JI:Stmt:=top 31
abbrev KG:List Str:=["_law_state","_law_many","_law_turn","_law_place","_law_cell","_law_digit","_law_mixed"]
def cM:D2 KG ["_law_state","_law_many"] (A9 JI):=by and_intros
section
variable{P:Program}{w:World}{K:FG}{mg:Str->Option Value}{base:Heap}
def uc(F:CL K "_law_begin" "_law_begin" JH f fd)(hm:Bn mg):Cn P w K mg base CX0 1 f fd ["_law_script"] (Ie K):=by
 refine F.ok hE (λvs H Q E h=>?_) (λcdv A J s H vs Q E hr h=>?_)
 ·obtain⟨a,ns,rfl,_⟩:=h;rfl
 ·obtain⟨a,ns,rfl,hS,M,q⟩:=h
  have y:D3 'k' none (some 63)=ns.map V.int:=qO M;refine{_,bA (bB (i:=1) hE.nd rfl (Or.inl rfl) (i0 oN (by rfl) hm.list boot_list (bp (i8 jd (pv 0) i6 (i7 bd)) bu))) (bA (fR (fX (gx hr) (pv 1) (fY bu) (iT _)) (dG (bB (i:=1) hE.nd rfl (Or.inl rfl) (fY (bp bd bu)))) fQ) (dG (dH (js (eH bR (pv 1) (eH bR bd gi)) rfl rfl 'd' (by show 2<=15;decide))))),?_};refine{.ref a,rfl,63,rfl,a,_,rfl,hS,λn C=>?_};rw[y];refine{n,_,rfl,.inl (.of aw),λd c=>?_};have O:n≠d:=aF aw c;have I:Ch H (Af (Af H n (.lst 'k')) d (.lst 'k')):=λb o e=>by
   have B:b≠n:=aF e C;have b2:b≠d:=λz=>by subst z;rw[aj B,e] at c;cases c
   rw[aj b2,aj B];exact e
  refine{_,rfl,(by show 0<=sizeLine;decide),λp l=>?_};have x:d≠p:=aF aw l;refine{λ_=>True,.lst (ns.map D.int),.lst [],ns.isEmpty,?_,?_,?_,?_,?_}
  ·exact Is.lst trivial (by rw[aj x];exact aw) (kK ns)
  ·exact Is.lst trivial aw (aa.nil.mpr rfl)
  ·exact gE ns
  ·cases ns<;>rfl
  have fin:∀(H3:Hp) (q2:Addr) (N:List Int),Ch H H3->H q2=none->H3 q2=some (.lst (N.map V.int))->N=EO ns->
   Jk [(λ_ H Q=>Q (.str "cells") H,BA 1),(λ_ H Q=>Q (.str "turn") H,λ_ H Q=>Q (.int 0) H)] [some (.ref a),some (.ref q2)] H3 Q:=λH3 q2 N G hn W Y=>by
   intro r g;have U:q2≠r:=aF W g;refine{_,rfl,aw,[(Sum.inr "cells",.ref q2),(Sum.inr "turn",.int 0)],rfl,(by show 2<=15;decide),?_};refine q r q2 _ (λb o e=>?_) ?_ ?_ ?_ ?_
   ·have T:b≠r:=aF (G b o e) g
    rw[aj T,aj T];exact G b o e
   ·cases z:H r with
    | none=>rfl
    | some o=>rw[G r o z] at g;cases g
   ·exact hn
   ·rw[aw];exact congrArg (λz=>some (HO.dK z)) qP
   ·rw[aj U,aj U,W,Y]
  have Z:H d=none:=by
   cases z:H d with
   | none=>rfl
   | some o=>
     have B:d≠n:=O.symm;rw[aj B,z] at c;cases c
  cases ns with
  | nil=>
    refine{_,rfl,dc ?_};refine{(by show 1<=sizeLine;decide),λu m=>?_};have R:Ch H (Af (Af (Af (Af H n (.lst [])) d (.lst [])) p (.lst [])) u (.lst [.int 7])):=λb o e=>by
     have j:=I b o e;have v:b≠p:=aF j l;have b4:b≠u:=λz=>by subst z;rw[aj v,j] at m;cases m
     rw[aj b4,aj v];exact j
    refine fin _ u [7] R ?_ aw rfl;cases z:H u with
    | none=>rfl
    | some o=>
      have j:=I u o z;have v:u≠p:=aF j l;rw[aj v,j] at m;cases m
  | cons L ns=>
    refine{_,rfl,dO ?_};have R:Ch H (Af (Af (Af H n (.lst ((L::ns).map V.int))) d (.lst ((L::ns).map V.int))) p (.lst [])):=λb o e=>by
     have j:=I b o e;have v:b≠p:=aF j l;rw[aj v];exact j
    exact fin _ d (L::ns) R Z (by rw[aj x];exact aw) rfl
open H in
def ud(F:CL K "_law_take" "_law_take" JI f fd)(G:mg "len" = none)(T:mg "divmod" = none):Cn P w K mg base CX0 1 f fd ["_law_state","_law_many"] (spS (WdS p l) K By):=by
 refine F.ok cM (λvs H Q E h=>?_) (λcdv A W s H vs Q E hr h=>?_)
 ·obtain⟨ds,us,a,rfl,i,ok,w⟩:=h
  unfold By at w;split at w
  ·rw[B1,<-i.length];rfl
  ·exact w.elim
 ·obtain⟨ds,us,a,rfl,i,ok,w⟩:=h
  unfold By at w;split at w
  ·rename_i u
   split at w
   ·rename_i R
    obtain⟨v,r,ev,i1,i2⟩:=aa.cons.mp i;rw[aa.nil.mp i2,Is.int_iff.mp i1] at ev;subst ev;have L:=gg hr;obtain⟨Z,hl,x,I,h0⟩:=id ok;have J:p≠l:=bQ Z hl (by intro z;cases z);refine{_,bA (bB (i:=2) cM.nd rfl (Or.inl rfl) (aX dJ (cD L (pv 0) bR (λ_ _=>rfl)) bd)) (bA (jp L (pv 0) bR (pv 2) rfl) (bA (bB (i:=3) cM.nd rfl (Or.inl rfl) (aX cZ (pv 2) (f4 eE (by rfl) G PySem.boot_len (bp (cD L (pv 0) bR (λ_ _=>rfl)) bu)))) (bA (bB (i:=4) cM.nd rfl (Or.inl rfl) (f8 jb (cD L (pv 0) bR (λ_ _=>rfl)) (pv 3) (λ_ _=>rfl))) (bA (fR (fX oj (pv 4) (aX og bd bd) (iT _)) (bA (fU (f4 ot (by rfl) T boot_divmod (bp (pv 4) (bp (pv 1) bu))) (fT (n:=2) rfl (dI (nS (cD L (pv 0) bR (λ_ _=>rfl)) (pv 3) oK) (dI (eA (i:=5) cM.nd rfl (Or.inl rfl)) fS)))) (dG (dH (pv 5)))) fQ) (bA (bB (i:=6) cM.nd rfl (Or.inl rfl) (aX cZ (aX cv (aX dJ (aX dJ (aX cZ (pv 4) bd) (aX cv (aX cv (pv 2) (pv 2)) bd)) bd) bd) bd)) (bA (bB (i:=6) cM.nd rfl (Or.inl rfl) (aX cZ (aX cv (pv 6) (pv 6)) bd)) (dG (dH (aX cZ (aX oa (aX cZ (aX cv (aX dJ (pv 6) (aX cv (pv 2) bd)) bd) bd) bd) (pv 1)))))))))),?_};have n0:(0:Int)<(a.1.length:Int):=by
     have:a.1.length≠0:=λz=>x (List.length_eq_zero_iff.mp z)
     omega
    have U:0<=(a.2+1) % (a.1.length:Int):=Int.emod_nonneg _ 'o';have pl1:(a.2+1) % (a.1.length:Int)<(a.1.length:Int):=Int.emod_lt_of_pos _ n0;have y:((B5 a:Nat):Int)=(a.2+1) % (a.1.length:Int):=Int.toNat_of_nonneg U;have C:B5 a<a.1.length:=by omega
    have Y:(a.1.map V.int)[B5 a]?=some (.int (a.1.getD (B5 a) 0)):=by
     rw[AX,Ba C,F4,Ba C];rfl
    have d:∀o,(Af H p o) l=some (.lst (a.1.map V.int)):=λo=>by rw[aj J.symm];exact hl
    have g0:BB H p (.str "turn") (some (.int a.2)):=by
     have q:=BB.k (k:=(Sum.inr "turn" : As)) Z;rw[kJ] at q;exact q
    have p0:EG H p (.str "turn") (.int (a.2+1)) (Af H p (.dK (DY l (a.2+1)))):=by
     have q:=EG.k (k:=(Sum.inr "turn" : As)) (v:=.int (a.2+1)) Z (by show 2<sizeLine;decide);rw[qN] at q;exact q
    have gc:∀{H2:Hp},H2 p=some (.dK (DY l (a.2+1)))->BB H2 p (.str "cells") (some (.ref l)):=λ{H2} e=>by
     have q:=BB.k (k:=(Sum.inr "cells" : As)) e;rw[qM] at q;exact q
    have c:(((a.1.map V.int).length:Nat):Int)=(a.1.length:Int):=by rw[Ai]
    -- turn,its store,the place
    refine{_,rfl,p,.int a.2,rfl,g0,a.2,1,rfl,rfl,_,rfl,_,rfl,p,_,rfl,p0,?_};refine{_,rfl,_,rfl,p,.ref l,rfl,gc aw,l,_,rfl,.inl (AT.of (d _)),a.2+1,_,rfl,rfl,by rw[c];exact n0,?_}
    -- the cell
    refine{_,rfl,p,.ref l,rfl,gc aw,_,rfl,l,_,_,.int (a.1.getD (B5 a) 0),rfl,rfl,AT.of (d _),by rw[c,<-y];exact f7 Y,?_};refine{_,rfl,10,18,rfl,rfl,{'z','z','z'},a.1.getD (B5 a) 0,_,rfl,rfl,_,rfl,?_};have B:((10:Int) ^ (18:Int).toNat)=1000000000000000000:=by decide
    by_cases O:1000000000000000000<=a.1.getD (B5 a) 0
    ·rw[if_pos O] at w
     rw[B,aV O];refine dc ?_;refine{_,rfl,_,rfl,a.1.getD (B5 a) 0,u,rfl,⟨R.1,R.2.1⟩,λq N=>?_};have qp:p≠q:=aF aw N;have ql:l≠q:=aF (d _) N;refine{q,_,rfl,AN.of aw,rfl,_,_,rfl,_,rfl,p,.ref l,rfl,gc (by rw[aj qp];exact aw),_,rfl,l,_,_,B5 a,rfl,rfl,by rw[aj ql];exact d _,?_,_,_,rfl,rfl,?_}
     ·rw[c,<-y]
      unfold B3;rw[if_pos 'o',if_pos (by rw[Ai];omega)];simp
     ·refine{_,rfl,w _ _ (λb o m M=>?_) {?_,?_,?_,?_,?_} (Is.int_iff.mpr rfl)}
      ·have b1:b≠p:=λz=>M (.inl z)
       have b2:b≠l:=λz=>M (.inr z)
       have b3:b≠q:=λz=>by
        subst z;rw[aj b1,m] at N;cases N
       rw[aj b2,aj b3,aj b1];exact m
      ·rw[aj J,aj qp];exact aw
      ·rw[aw]
       congr 2;rw[List.map_set]
      ·intro z
       have:=congrArg List.length z;rw[CI] at this;exact x (List.length_eq_zero_iff.mp this)
      ·show (a.1.set _ _).length<=63
       rw[CI];exact I
      ·show 0<=a.2+1
       omega
    ·rw[if_neg O] at w
     rw[B,aI O];refine dO ?_;have tb:-(2 ^ 64)<a.2+1/\a.2+1<2 ^ 64:={'o','o'};have g:∀(j:Int),-(2 ^ 64)<j/\j<2 ^ 64->∀i:Int,DK i j:=λj h i=>.inr h
     refine{_,rfl,a.1.getD (B5 a) 0,2147483629,rfl,rfl,(by show (0:Int)<2147483629;decide),_,rfl,_,rfl,_,_,rfl,rfl,.inl tb,_,_,rfl,rfl,g _ {'z','z'} _,_,_,rfl,rfl,_,_,rfl,rfl,_,_,rfl,rfl,g _ {'z','z'} _,_,_,rfl,rfl,(by show (0:Int)<2147483647;decide),?_};have m0:0<=FV (a.1.getD (B5 a) 0) (a.2+1):=Int.emod_nonneg _ 'z';have m1:FV (a.1.getD (B5 a) 0) (a.2+1)<2147483647:=Int.emod_lt_of_pos _ 'z';refine{_,rfl,_,rfl,FV (a.1.getD (B5 a) 0) (a.2+1),FV (a.1.getD (B5 a) 0) (a.2+1),rfl,rfl,.inl {'o','o'},_,_,rfl,rfl,(by show (0:Int)<2147483587;decide),?_};refine{_,rfl,_,rfl,a.2+1,104729,rfl,rfl,g _ {'z','z'} _,Jy (a.1.getD (B5 a) 0) (a.2+1),_,rfl,rfl,_,39373,rfl,rfl,g _ {'z','z'} _,_,2147483629,rfl,rfl,(by show (0:Int)<2147483629;decide),_,64,rfl,rfl,{'z','z'},_,rfl,Jz (a.1.getD (B5 a) 0) (a.2+1),u,rfl,rfl,R.1,?_};refine w _ _ (λb o m M=>?_) {aw,d _,x,I,by show 0<=a.2+1;omega} (Is.int_iff.mpr rfl);rw[aj (λz=>M (.inl z))];exact m
   ·exact w.elim
  ·exact w.elim
end
set_option hygiene false
open Lean in
def mT:="A0rfl #2 #3 A0dw #4 #7 #1 #5 #6 ? #0 #8 @2.nd A0cp =Ɋ0Ż X =60$ =60) Q00 =Ʌ0F =60- =Ɍ0Ż A1gU_ =q00 =60% =60' !i #9 =G0Û =A02 =Ɏ0, =c00 =Ɇ06 =ɶ0X =C10 A1pv =ě1ě @4 =60* =Ä1& [1 A0qe A0xp A1gA_ =œ2ǻ =Ç0B =@0Ƙ =ě1Q !j A;wY [2 @3 A1some A0hr A0xq #12 [4 - [3 =ɋ0# =ɟ1X @6 =ñ1@ =?2Û =Ţ0& =ɩ0# ==0* A0oi =J0$ =ɺ0F =ě1@ A0pY =Ʃ10 =ɱ0# =G1Û A1wt A2sI =ʻ1ʼ A1gL_ =S0+ =ñ1Q #10 #11 A1pN =W0% =Ȇ0ã =J0- =60+ =ǲ1ȁ =Ł0Ɩ @5 =ĉ10 =Ȇ0Č A0none [0 =ʓ0# =Ò06 =ɧ0X =ā10 =Ĕ0V =Ñ0ƃ =Ÿ0Ũ =˅0Ż =ʫ1/ =Č0Ž =Ŀ2Â =ƨ0l =ø0Ư 'held A1gT_ =ɑ0# =s1Þ A2xt =Ù10 =60( =È26 =˃0# A2xB =ǯ12 =ǲ1^ =_1õ =60> A0lQ =W0) ==0' =Ÿ0Ņ =ʦ0ų =ɷ0# =ɦ0# !N' 'cell !ixs =U0Á =ʆ0ʇ =Ɖ0Ɗ =ã0h =l1& =Ǻ1) =v0˂ =ă1& =c0B =Ǩ2ɥ =ŗ0ŗ =ǰ1) =Ĕ0H =C1E =F0( A0v4 =ƭ0$ A2jL A0wM =ŵ0V =o10 =í0V =ɏ0# =Ʋ0â =_0V =o0J =ˆ3Ĥ =Ƕ0Å =Ŧ1ˊ =Ƕ0Ƹ =60. =ā0- =ŵ1% =ʎ09 =ˇ2ˈ 'kind =ʊ0# =Ǐ1ë A<wu =ˉ1Ľ =a0ï '_law_cell =Ò0q =Ĕ0} =ǰ1- =õ0' #14 =60t =ǵ1/ =ɲ0N =ś0P =ɉ0, =˨01 =ũ0ņ =ù1Ȅ =˙1Ë 'x 'y =[0Á =W0$ =ʿ0F =ʪ0D A0hm.enumerate =]0Á =ǘ0- =ǭ4Q =ă1M =ˣ0Å A0qc Q21 =į0Ǧ A1DW.dt =Ƒ0H =Ƃ02 =ñ0į =ĥ2Y =˚3Ǎ =ˏ1Ȁ =ˤ0f =ƍ0Ƹ =Ȉ03 =Ȉ0; =ƶ0Ɔ =ˁ01 A0wU =ʾ0ų =90ð =Ƈ4ê =í0} A1g2_ =Ť10 =Ƶ1ǻ =×1L =ʔ1ǒ A2pV =ŭ1ŭ =v0, =Ú22 =Ù1Õ =?3Q =ì0Ŵ A2xa =ţ0ŏ =Ã1P =Ʒ0Ʒ =Ʒ00 =ˌ0Ǹ =Ƶ1Ƶ =Ç0Ÿ =Ƨ1B A1pO =Ƭ0& =C1C =Ţ0M =~0ð =ʽ0Å =N0Ǽ A0wd A0wK A0hm.int A0boot_int =ɵ3# A2xu =ƪ10 A2xD =d0& A2wj =U0đ =ʥ1Ȁ =m02 =ˡ1ˢ =˩0X =J0> R1 =ť0P =Ç0ȇ =ȇ1& =ƀ0I =ĳ0+ =ɸ0Ż =ʌ0Ǹ =_1C =Ç0á =a1Ǣ =ę10 =˥0Ƹ =Ł0Ǝ .R =ư0Â =ć00 =Ä0) A0cZ =l1; =ć0ć =ě1A =ɝ01 A1xJ A0xK =˄10 =ʢ0å 'n =ɻ0ɼ =Ƌ0- =ǵ1ɹ =G1s =È1ä =ʛ01 Q02 A5wO =ǖ1- A0wa A0wG =ù0Ę 'stand =ɴ01 @7 A1jF 'k 'word 'kept_by_one 'kept_by_other A0xi A0xj A1gB_ =ʴ1# A@w7 !k A2xE A2qr #13 #15 =Ơ0C =90Ʃ A2xC A2xx =ȅ00 A2xv =ʗ0ʘ =Ɣ1Ɣ =Ʈ2Ȅ =ɰ1Ǆ A2pJ A1wm A3nS A0oK A2wT =ɨ3# =ř0ř =ʑ0X A:wE 'j 'i A2xr A0cs.WALL A4wx A5xf Q03 A8xh Q44 A1wA A0PassesOwn.never 'b 'a A1qs 'direction 'other 'known A0xn A1xo A0hm.sorted A0boot_sorted =ư0K 'later 'number A0eE =ʐ0# A0hm.len A0PySem.boot_len =_1E =Ǻ1$ =õ0) '_law_j '_law_i '_law_place Q05 '_law_state '_law_broad '_law_taken #16 '_law_there =Ǳ1^ A0v6 A4xQ =ʏ3ǔ =Ʊ1ˋ A:wF =ɣ0, A2fU A0hv A2dI A0hk =ƌ0s @8 R2 =ɕ1X =ɘ0= =20Ǳ =ɚ0= =ɒ12 =ǳ2^ =×1ä A0qd A0vZ =ƶ0E =Ü1- A0wS =š0E A0boot_tuple A0hm.tuple =ʍ0# A0we =ʋ0# =ʞ0= =ƃ1ä A0pU =Ť0Ů =ż1Ę =k0Ŵ =ʵ0ž A?xg !tbl !a0 A0cs.STEPS A3xI A3p9 A6xH A0wb A0wH A1wy A0hm.all A0boot_all A1tJ A6wP A5xT A3xk A6w3 A0vY A5xV !l 'sides 'lines 'ring 'sign A0cs.KEPT_WORDS A;xb A0w8 Q06 A2w5 A1xc A0w6 A0hm.dict A0boot_dict A5wN A1qo A0hm.any A0boot_any A7xM A7xL A1xO A0xP A0PySem.F.slot_list_remove A0PySem.F.type_list_remove A0xR A0xS A2xF A5xN A2xG A0og A3xU A0hm.zip A:xl Q17 A2fT A0hl A0fS A6wR Q18 A2xm A5jK A1bh A2d9 A2bI =ǯ0ɇ =Ɉ1, !ga A1Or.inl !gb A1eJ =ŭ0ɍ Q19 A4gX_ =ɐ3þ R3 A5wv =ɓ3F =ɔ2# A5eK =ɖ2# =ɗ1/ A4gm =ə2# A7eI =ɛ6# =ɜ18 A4jP =ɞ2# A3jG =Ǵ0ɠ =ɡ2, =ɢ1, A0jC =20ɤ A1eT A1gx A6eV A3gp_ =Ǵ22 A6wp =ɪ0ɫ =ɬ5, =ɭ4, =ɮ3, =ɯ2# A3gP_ A2xA A6jA =ɳ18 A6w4 A1gg A2wZ !g Q1: A1jz Q1; Q3< A3G9.scope =ɽ2ǜ !osc =ɾ1ɿ A1A9 =ʀ1ʁ @0 =ʂ1ʃ !N =ʄ0ʅ @1 A3wo A0hm.range =ʈ1ʉ A1Or.inr =|1Ƿ A1wI A2xz =ǹ4Ǖ A1j9 A1j4 A4gY_ =ʒ3þ =ǥ2Ǔ A4wn =ʕ2# =ʖ1# !n A7pG =ʙ6# =ʚ18 A8qf =ʜ7# =ʝ5F A7pZ =ʟ4# =ʠ3é =ʡ1ç =Ǽ4ǽ =ʣ3Ǿ =ʤ2ǿ A2pH A6wQ =ʧ38 =ʨ21 =ʩ1F =ǳ2ȁ A0boot_min =ƶ4ʬ A0hm.min =ʭ3ʮ A1wL =ʯ2ʰ =ʱ2Ə A1wc =ʲ1ʳ =Ò1& A0PySem.F.type_list_append =Ȃ4ʶ A0PySem.F.slot_list_append =ʷ3ʸ A0qg =ʹ2ʺ A0ge =ȃ2& A2wV A1pS A5wX =ˀ1# =ȅ0ƫ A1wB A2sJ !gc =?3@ =[3ƕ 'hall =Ļ2ļ A1wg A1pI =Ɩ1Ƿ =š4ǽ =ˍ3Ǿ =ˎ2ǿ =ż2@ =ː2Ȃ A0PySem.F.type_list_extend =ˑ6˒ A0PySem.F.slot_list_extend =˓5˔ A0ww =˕4˖ A0wf =˗3˘ =ǹ4ǎ A0boot_list =Ŝ4˛ A0hm.list =˜3˝ A1wJ =˞2˟ =ˠ2# A0oN =ź1ä =ź1L =ȃ2Ǘ A3wD A1wC =˦2˧ A1wz".splitOn " "|>.map String.toList|>.toArray
open Lean in
def m_F(x:String)(t:Term):MacroM Term:=`(fun $(((x.splitOn " ").map λy=>(mkIdent y.toName:Ident)).toArray)* => $t)
open Lean in
def m_B(x:Array Term):MacroM Term:=`(⟨$x,*⟩)
open Lean in
def mQ(a:Nat->Term):Nat->MacroM Term
  |0=>pure ⟨(Syntax.mkCharLit "z".front).raw⟩
  |1=>pure (Syntax.mkApp (mkIdent `Prod.mk) #[a 0,a 1])
  |2=>pure ⟨mkNode ``Parser.Term.hole #[mkAtom "_"]⟩
  |3=>pure (Syntax.mkApp (mkIdent `Neg.neg) #[Syntax.mkNumLit "1"])
  |4=>m_B #[a 0,a 1,a 2,a 3]
  |5=>`(by decide +kernel)
  |6=>pure ⟨(Syntax.mkCharLit "d".front).raw⟩
  |7=>m_F "hk hl hv" (a 0)
  |8=>m_F "hk hv" (a 0)
  |9=>m_F "u_0 u_1" (a 0)
  |10=>`(show (($(a 0)):List Str).Nodup by decide +kernel)
  |11=>m_F "av cl C s H fp" (a 0)
  |_=>m_B #[a 0,a 1,a 2]
open Lean in
def m_Z(x:Array Term):MacroM Term:=`([$x,*])
open Lean in
def mA(I:Array Syntax):Nat->Char->List Syntax->Nat->MacroM (List Syntax×Nat)
  |0,_,s,n=>pure (s,n)
  |f+1,c,s,n=>do
   let c:=c.toNat
   let p (k:Nat)(t:Syntax):MacroM (List Syntax×Nat):=pure (t::s.drop k,n)
   let a (k:Nat):Term:=⟨s[k]!⟩
   let N (x:List Char):=mkIdent (String.ofList x).toName
   match mT[if c<127 then c-35 else c-100]! with
   |['=',a,i,b]=>do
    let i:=i.toNat-48
    let (r,n)←mA I f b (s.drop i) n
    mA I f a (s.take i++r) n
   |'A'::k::x=>
    let k:=k.toNat-48
    p k (Syntax.mkApp (N x) ((s.take k).map TSyntax.mk).toArray)
   |'.'::x=>p 0 (mkNode ``Parser.Term.dotIdent #[mkAtom ".",N x])
   |'@'::k::x=>p 0 (mkIdent (I[k.toNat-48]!.getId++(String.ofList (x.drop 1)).toName))
   |'#'::x=>p 0 (Syntax.mkNumLit (String.ofList x))
   |'\''::x=>p 0 (Syntax.mkStrLit (String.ofList x))
   |'!'::x=>p 1 (mkNode ``Parser.Term.namedArgument #[mkAtom "(",N x,mkAtom ":=",s[0]!,mkAtom ")"])
   |['[',k]=>do
    let k:=k.toNat-48
    p k (←m_Z ((s.take k).map TSyntax.mk).toArray)
   |'?'::_=>do
    return (mkNode ``Parser.Term.syntheticHole #[mkAtom "?",mkIdent ("q"++toString n).toName]::s,n+1)
   |'X'::_=>p 1 (mkNode ``Parser.Tactic.exact #[mkAtom "exact",a 0])
   |['R',k]=>do
    let mut t:TSyntax `tactic:=⟨mkNode ``Parser.Tactic.refine' #[mkAtom "refine'",a 0]⟩
    let mut i:=1
    for x in s[0]!.topDown do
     if x.isOfKind ``Parser.Term.syntheticHole then
      let h:Ident:=⟨x[1]⟩
      let y:TSyntax `tactic:=⟨s[i]!⟩
      t←`(tactic|($t:tactic;case $h:ident=>$y:tactic))
      i:=i+1
    p i t
   |['Q',k,j]=>do p (k.toNat-48) (←mQ a (j.toNat-48))
   |_=>Macro.throwUnsupported
local macro_rules
 |`(tactic|exact $s:str $x*)=>do
  let mut r:List Lean.Syntax×Nat:=([],0)
  for c in s.getString.toList.reverse do
   r←mA x 99 c r.1 r.2
  return r.1[0]!
abbrev m_T(x:Type):=Program->World->FG->(Str->Option Value)->Heap->Addr->Addr->Nat->x
abbrev m_U(n x z)(P w K mg base)(p l:Addr)(k)(B:Ay Unit):=∀f cdv A outer s H E,Bc k (A.deeper (envOfC x (A9 z) s.heap.objs.size f cdv))->CM (Do CX0 P w K mg base n x (A9 z) f cdv A outer s H E).nox (cx0 K H) (Co z) B
abbrev m_D(n x z)(P w K mg base)(p l:Addr)(k)(B:Ay Dr):=∀f cdv A outer s H E,Bc k (A.deeper (envOfC x (A9 z) s.heap.objs.size f cdv))->CM (Do CX0 P w K mg base n x (A9 z) f cdv A outer s H E).nox (cxS (WdS p l) K H) (Co z) B
abbrev m_W(n x z)(P w K mg base)(p l:Addr)(k)(B:Ay Dr):=∀f cdv A outer s H E,Bc k (A.deeper (envOfC x (A9 z) s.heap.objs.size f cdv))->CM (Do CX0 P w K mg base n x (A9 z) f cdv A outer s H E).nox (cxS (WdS p l) K λ_=>none) ((Co z).drop 1) B
abbrev m_V(x s G)(P w K mg base)(p l:Addr)(k):=Dq P w K mg base k x s (sp0 K G)
abbrev m_E(x s G)(P w K mg base)(p l:Addr)(k):=Dq P w K mg base k x s (spS (WdS p l) K G)
abbrev m_A{S}(h:m_T Prop)(t:m_T (Ay S->Prop))(P w K mg base)(p l:Addr)(k)(B:Ay S):=h P w K mg base p l k->t P w K mg base p l k B
abbrev m_R(t:m_T (Ay Unit->Prop)):={B:Ay Unit//∀P w K mg base (_:Bn mg) (_:Cst K mg) k,t P w K mg base 0 0 k B}
abbrev m_S(t:m_T (Ay Dr->Prop)):={B:Ay Dr//∀P w K mg base p l (_:Bn mg) (_:Cst K mg) k,t P w K mg base p l k B}
open Lean in
def m_L(x:List String):MacroM Term:=m_Z ((x.filter (·≠"")).map λz=>(Syntax.mkStrLit z:Term)).toArray
open Lean in
def m_I(c:String)(i:Nat):Ident:=mkIdent (c++toString i).toName
open Lean in
def m_Y(x:Name)(y:Array Term):Term:=Syntax.mkApp (mkIdent x) y
open Lean in
def m_H:List String->Nat->Term->MacroM Term
 |[],_,t=>pure t
 |z::w,i,t=>do
  let v:=z.splitOn " "
  let l←m_L (v.drop 1)
  let t←m_H w (i+1) t
  pure (m_Y `m_A #[m_Y (if z.front=='D' then `m_E else `m_V) #[Syntax.mkStrLit (String.ofList (v[0]!.toList.drop 1)),l,m_I "G" i],t])
open Lean in
def m_J(x:String):Array Ident:=((x.splitOn " ").map λy=>mkIdent y.toName).toArray
open Lean in
def m_N(k:Name)(a:Array Syntax):Syntax:=.node .none (`Lean.Parser++k) a
open Lean in
def m_O(a:Array Syntax):=m_N `Tactic.tacticSeq #[m_N `Tactic.tacticSeq1Indented #[mkNullNode a]]
open Lean in
def m_K(a:Array Syntax):=m_N `Term.byTactic #[mkAtom "by",m_O a]
open Lean in
def m_P(f:Bool)(x:Syntax)(b:Array Syntax)(y v:Syntax):Syntax:=
 let e:=mkNullNode
 m_N `Command.declaration #[m_N `Command.declModifiers #[e,e,e,e,e,e,e],m_N (if f then `Command.definition else `Command.abbrev) (#[mkAtom (if f then "def" else "abbrev"),m_N `Command.declId #[x,e],m_N `Command.optDeclSig #[mkNullNode b,mkNullNode #[m_N `Term.typeSpec #[mkAtom ":",y]]],m_N `Command.declValSimple #[mkAtom ":=",v,m_N `Termination.suffix #[e,e],e]]++if f then #[e] else #[])]
local macro_rules
 |`(command|example($m:ident $s:ident $n:ident $c:ident):$h:str:=$b:str)=>do
  let w:=h.getString.splitOn "/"
  let f:=w[0]!.front
  let d:=f != 'U'
  let e:=w.drop 4
  let C:=(List.range e.length).toArray.map (m_I "C")
  let G:=(List.range e.length).toArray.map (m_I "G")
  let t←m_H e 0 (m_Y (if f=='U' then `m_U else if f=='D' then `m_D else `m_W) #[n,Lean.Syntax.mkStrLit w[1]!,s])
  let q:=m_Y (if d then `m_S else `m_R) #[t]
  let x:=m_J (if d then "P w K mg base p l hm cs k" else "P w K mg base hm cs k")++C++m_J "f cdv A outer s H E hr"
  let a←m_L (w[2]!.splitOn " ")
  let r←m_L ((w[2]!++" "++w[3]!).splitOn " ")
  let e:=Lean.mkNullNode
  let o (x:String):Lean.Syntax:=m_N `Term.syntheticHole #[Lean.mkAtom "?",Lean.mkIdent x.toName]
  let y:=m_B #[⟨o "B"⟩,⟨o "h"⟩]
  return Lean.mkNullNode #[m_P false s #[] (Lean.mkIdent `Stmt) (m_Y `top #[Lean.Syntax.mkNumLit (String.ofList (w[0]!.toList.drop 1))]),m_P false n #[] (m_Y `List #[Lean.mkIdent `Str]) r,
   m_P true c #[] (m_Y `D2 #[n,a,m_Y `A9 #[s]]) (m_K #[m_N `Tactic.tacticAnd_intros #[Lean.mkAtom "and_intros"]]),
   m_P true m (G.map λg=>m_N `Term.explicitBinder #[Lean.mkAtom "(",Lean.mkNullNode #[g],e,e,Lean.mkAtom ")"]) q (m_K #[m_N `Tactic.refine #[Lean.mkAtom "refine",←y],e,m_N `Tactic.case #[Lean.mkAtom "case",Lean.mkNullNode #[m_N `Tactic.caseArg #[Lean.mkNode `Lean.binderIdent #[Lean.mkIdent `h],e]],Lean.mkAtom "=>",m_O #[m_N `Tactic.intro #[Lean.mkAtom "intro",Lean.mkNullNode x],e,m_N `Tactic.exact #[Lean.mkAtom "exact",Lean.Syntax.mkApp b (#[s,n,c]++C)]]]])]
set_option hygiene true
example(ys1 yh2 xm2 xx2):"U2/within/wide high cell/":="QĜƹ18Ê÷fLL&g7ƹ18Ê÷fLL&g4"
example(yn1 zv6 yl0 zr9):"U3/covered/kind place/x y cells i":="ĝh)øùË$ĞË%':iğÌ*''Í[ƺĠƻġĢģW*wÌ[ƺĠƻġjÎ43kl;7Ĥ'"
example(ym5 yc2 yz2 zo7):"U4/holders/hall stand/held wall n kind cell/Ucovered kind place":="?$úxy%@ĥ$;Ƽƽ#iżƾ##ĦŽÏ'*Axû*üž<+@ĥ$z<Ĥ$"
example(zx2 zm7 zw6 zo2):"U5/free_cells/hall stand/held cells x/Uholders hall stand":="m{$ý%:iğÌ'%%Í]ġĠÐħW'ģÌ]ġĠÐnÑƿ18D9Ĩ39ĨĤ%"
example(we6 xk2 wr5 wv8):"U8/goes/ways direction/":="ĩĪ-ī|ſĬ4&&Ī-ī|ſĬ4&&ī7M"
example(zt6 zo3 yc6 zz6):"U9/one_further/place direction/east north":="R2ȉȊ[ĭ)-ĭ-)ĭǀ-ĭ-ǀ=$S%ȋ-##Ȍ#/##^^4þÎy3kƀy"
example(yt8 yh4 xm4 zv3):"U10/met_by/hall stand held n direction/kind met cell holder/Ugoes ways direction/Ucovered kind place/Uone_further place direction/Uwithin wide high cell":="?*Òy;ÓÿĀā*E'Ă+:x_HÔIÕ_}ož;E'(?.ǁ18ÊD3Ö;ǂ####ÓĮă.Ƽƽ#ÿ_`ƁE(AaįĄą.;×ǃXØ.zp++Ć+"
example(zj9 zh2 zq8 ya5):"U13/without_trolleys/hall/":="Q9Ɓć~0"
example(yf0 zy6 yp1 xf8):"U14/floor_of/hall//Ufree_cells hall stand/Uwithout_trolleys hall":="QĀÙİ~0"
example(zr2 zl9 ya0 ze8):"U15/places_alone/hall kind place/alone walls known waiting at direction further/Uholders hall stand/Uwithout_trolleys hall/Uone_further place direction/Umet_by hall stand held n direction":="b%9Ɓć~E)'ĀÙİ~0b*ȍD3Y+qE$RÚȎǄ,,ą+:ıȏ=(r/#^F+ÀB.ƂÛ>Ü}(.ĲĄÑƿ18DÝIƃȐȑĈ`ĉE(C'cE.Þi2ĳ*Ýp++ÝNĴ*Ƅ#ƅ"
example(xf6 yj4 xh1 wk4):"U16/sides/hall stand//Uplaces_alone hall kind place":="QĵƆƇĊƈċĢÁW-ßÂƾ##ĦŽƉøùƊĊƈċĞƋ)ĊƈċjÃû$C)üÄ%7&"
example(xf7 yt0 wa7 wk5):"U17/share/one_least one_many other_least other_many/":="QĜĶ7ƀ3Ķ3l74"
example(zx1 zq5 yf7 yc0):"U18/goes_ahead/hall stand a b/one other/Ushare one_least one_many other_least other_many":="ƌ2TàS*#/##5##OÒy3Òy;#ķJ'J*YĩƍÅJ'MĜĶĸĹĀoĸā'oĹÆ*ƍÅJ'MĜĶĸĹĀoĸā'oĹÆ*Y"
example(yu1 yj5 xh2 ys9):"U19/lines/hall stand/pairs a/Ugoes_ahead hall stand a b":="Ă$:ğČá)%$$ÍĊǅǆĢwW-ßČá)Ċǅǆnâû$C%Ĩ9Ĩ$"
example(zn7 zg8 zn5 ye4):"U20/all_are_single/hall/":="QĺÍKċKÁãyKċjƎÅäĻ7ļĽ&ľȒ#ǇƏȓȔ"
example(zp4 zg4 zk4 zf6):"U21/neighbours_on/floor/known cell neighbours near/Uone_further place direction":="G{)úč--Ë$@ĳ)3Ă%úč--Ë$i2ĎàåUǈæçèģÂé#/##ČBêUǈæjÜV)-#ĥ%3ȕĺĿUǉǊèßK'ë'UǉǊnÑƐ18D747ǋǌ#Ǎǎ%"
abbrev GC:Stmt:=top 22
abbrev Ix:List Str:=["hall","floor","neighbours","ring","at","one","other","further"]
def bY:D2 Ix ["hall"] (A9 GC):=by and_intros
def Iy(E3)(G5):{ B:Ay Unit // ∀P w K mg base (hm:Bn mg) (cs:Cst K mg) k (C4:Dq P w K mg base k "floor_of" ["hall"] (sp0 K E3)) (D4:Dq P w K mg base k "neighbours_on" ["floor"] (sp0 K G5)) f cdv A outer s H E,Bc k (A.deeper (envOfC "ring_of" (A9 GC) s.heap.objs.size f cdv))->
 CM (Do CX0 P w K mg base Ix "ring_of" (A9 GC) f cdv A outer s H E).nox (cx0 K H) (Co GC) B }:=by
 refine{?B,λP w K mg base hm cs k C4 D4 f cdv A outer s H E hr=>?h};case h=>
  refine' bI ?q1 ?r1;case q1=>
   exact eK (i:=1) bY.nd rfl (Or.inl rfl) (jP C4 hr rfl (d9 (bh (pv 0)) cp))
  case r1=>
  refine' bI ?q2 ?r2;case q2=>
   exact jK (i:=2) bY.nd rfl (Or.inl rfl) (tJ (jP D4 hr rfl (d9 (bh (pv 1)) cp)))
  case r2=>
  refine' bI ?q3 ?r3;case q3=>
   refine' jG ?t4 ?a4 ?b4;case t4=>exact(DW.dt (pJ (gT_ (eI (ga:=.R) (gb:=.R) (gx hr) (eT rfl) (bh (pv 1)) (gL_ cp) rfl)) (pI (pH (g:=.R) (eV (sJ (pZ (N':=["near"]) (ixs:=[none]) [] (G9.scope (N:=Ix) (osc:=A9 GC) (by decide +kernel)) rfl (tZ (jz (pv 2))) (λav cl C s H fp=>{(gm (i:=0) (show (["near"]:List Str).Nodup by decide +kernel) rfl (Or.inl rfl)),pY,(g2_ (pG (ga:=.R) (gb:=.R) (j4 hr) (eT rfl) (gA_ (eV (d9 (bh (pv 0)) cp) eE (tL rfl) rfl hm.len PySem.boot_len)) dw rfl))})) cp) (qo rfl) (qs _) rfl hm.any boot_any)))))
   case a4=>
    refine' eJ ?q5;case q5=>
     exact jF lQ
   case b4=>
    exact jC
  case r3=>
  refine' bI ?q6 ?r6;case q6=>
   exact eK (i:=3) bY.nd rfl (Or.inl rfl) (gL_ (sI (gX_ rfl (bh (pv 1)) dw (λ_ _=>rfl)) cp))
  case r6=>
  refine' bI ?q7 ?r7;case q7=>
   exact eK (i:=4) bY.nd rfl (Or.inl rfl) (g2_ (gk (ga:=.R) (gb:=.R) f9 (tK rfl) (g2_ (lY (ga:=.R) (gb:=.R) (gg hr) (bh (pv 2)) (gX_ rfl (bh (pv 1)) dw (λ_ _=>rfl)) (λ_ _=>rfl))) dw (λ_ _=>rfl)))
  case r7=>
  refine' bI ?q8 ?r8;case q8=>
   refine' p9 PassesOwn.never ?t9 ?b9;case t9=>exact(gT_ (eI (ga:=.R) (gb:=.R) (j4 hr) (eT rfl) (bh (pv 4)) (gX_ rfl (bh (pv 1)) dw (λ_ _=>rfl)) rfl))
   case b9=>
    refine' bI ?q10 ?r10;case q10=>
     exact pV (g2_ (lY (ga:=.R) (gb:=.R) (gg hr) (bh (pv 2)) (bh (pv 4)) (λ_ _=>rfl))) (t0 (n:=2) rfl rfl (jL (gm (i:=5) bY.nd rfl (Or.inl rfl)) (jL (gm (i:=6) bY.nd rfl (Or.inl rfl)) pU)))
    case r10=>
    refine' bI ?q11 ?r11;case q11=>
     exact eK (i:=7) bY.nd rfl (Or.inl rfl) (qq (eI (ga:=.R) (gb:=.R) (gx hr) (eT rfl) (bh (pv 5)) (gY_ rfl (bh (pv 3)) (qr (ga:=.R) dw) (λ_ _=>rfl)) rfl) ((gj (pv 6)).imm .F) ((gj (pv 5)).imm .F))
    case r11=>
    refine' bI ?q12 ?r12;case q12=>
     exact qf (i:=3) ge qg PySem.F.slot_list_append PySem.F.type_list_append (pv 3) (bh (pv 4)) rfl
    case r12=>
    refine' eJ ?q13;case q13=>
     exact jK (i:=4) bY.nd rfl (Or.inl rfl) (jz (pv 7))
  case r8=>
  refine' bI ?q14 ?r14;case q14=>
   refine' jG ?t15 ?a15 ?b15;case t15=>exact(gT_ (eI (ga:=.R) (gb:=.R) oi qe (gA_ (eV (d9 (bh (pv 3)) cp) eE (j9 rfl) rfl hm.len PySem.boot_len)) (gA_ (eV (d9 (bh (pv 1)) cp) eE (j9 rfl) rfl hm.len PySem.boot_len)) rfl))
   case a15=>
    refine' eJ ?q16;case q16=>
     exact jF lQ
   case b15=>
    exact jC
  case r14=>
  refine' eJ ?q17;case q17=>
   exact pS (pv 3)
example(zv8 zm6 zw5 zk1):"U23/ring_order/hall stand/ring held order first/Uall_are_single hall/Uring_of hall/Uholders hall stand":="mÓÿƑV$İGÓ×ƒƓ$Þ{%ŀƌ2ĎàåUæÐçèwK$é#/##ë$êUæÐnÑƐ18D74ŁȖ18D47þ#ă':90RÛ*ȗ18#<&ĵłdď<IĻ<ļĽI"
example(zl4 zg3 zl6 zf7):"U24/pairs_that_fall/numbers/falling k number":="Ă)&Ǐ-Ș#ĦŃh-øƔ$ĞË%@ș=)/#^ȚĺÍUǐǑèwãď7ì3UǐǑnńf-47ǒǓǔǕ)"
example(xw7 yx5 wa6 ye3):"U25/sign/hall stand/free held numbers x y/Ufree_cells hall stand/Uall_are_single hall/Uholders hall stand/Ufloor_of hall/Upairs_that_fall numbers":="?$ýÓĮÿİķNŅ$&G{%ŀ2Ďàå]æÐƕçħwßÂé#/##ãƑ`ê]æÐƕjǁ18ÊD47NŅ$ǂ#####R2ņgÏ*+ƖſĬddǖƗ'Iz&"
example(wc2 xk1 wr4 wv7):"U26/kept/hall stand//Usign hall stand/Uring_order hall stand/Ulines hall stand/Usides hall stand":="AŇƘ,ňÚÙ,,í`ŉÙ,,ĵÕŀŊíHý"
example(zr1 zi6 zr3 zp1):"U27/unlike_words/hall one other/kept_by_one kept_by_other/Ukept hall stand":="G{%ý{'ǗVQƇ[ƙƚƛƜĢÁwW'ÂțȜ[ȝȞȟȠȡ##ĦƉøùƊ[ƙƚƛƜĞƋ)[ƙƚƛƜnķÄ$7Ä%74"
example(ys3 yh3 xm3 yx4):"U28/unlike/hall one other/words/Uunlike_words hall one other":="ŋ%û-ǘ$Óă%:J%"
example(zm4 zi7 zr4 zp2):"U32/_law_covered/_law_kind_here _law_place/_law_found _law_i":="Ă$:ğÌ%$$Í]ǙǚǛħwßÌ]ǙǚǛjÎg4klg7$"
example(zr8 zm0 ya1 zv4):"U33/_law_room_of/_law_wide _law_high _law_kind_here/_law_across _law_up":="R2T=%S'#/##5##OŌ7gŌ4g#Ȣ1Dō|Ɲƞ;<ō;ō<ō&ȣ##Ȥ55ǜgþ"
example(zy1 zq6 yf8 yc1):"D34/_law_sized/_law_state _law_broad/_law_way/D_law_take _law_state _law_many":="msƟâ4î$Pĩï$îï$îî"
example(yb1 zt4 yl1 ze9):"D35/_law_kind/_law_state _law_wide _law_high _law_broad/_law_sizes _law_across _law_up _law_ways _law_great/D_law_take _law_state _law_many":="?'qccccð2Ter#/##5##OƠÔ4Ŏ<ƠÔ3Ŏ<#?(ŏqŐőñƟâ;?(ŏqŐőaĪ(Ter#/##5##OŒ4P&#AaĪ(Ter#/##5##O&Œ3P#?.PĐ.ơerƢ(#/###555###œ&Œ3Ŕŕ$ŃM#GĐ.ơerƢ(#/###555###œŒ4Ŕŕ)&ŃM#Đ.ơerƢ(#/###555###œNŕ)Nŕ$ŃM#AŇƘ,ňÚÔ,,IŉÔ,,zÔÖŎŖòòŗƣƤ1&0"
example(yb2 zj4 zp5 zd5):"D36/_law_hall/_law_state _law_broad _law_much/_law_wide _law_high _law_cells _law_shuts _law_taken _law_kinds _law_places _law_rooms _law_turn _law_kind_here _law_place _law_own _law_room _law_cell/D_law_sized _law_state _law_broad/U_law_covered _law_kind_here _law_place/D_law_take _law_state _law_many/D_law_kind _law_state _law_wide _law_high _law_broad/U_law_room_of _law_wide _law_high _law_kind_here":="ĝÇE)Ï%'*_HĉŘ%'řBŚG2Ď=+å]đǝǞçħW-ßK*é#/##ë*ê]đǝǞnśó}üĒðŜ$ŝŞşŠ7#{(šƆĿKđKÁK+ë+Kđj9C-ŢY0ȥ#ȦXȧȨȩb.:>:ŋt&ÀţÃŖŤťēBBŜ)ŝŞşŠubZĔ`C%ĕ)ƥvŊēkŌ;JZēkŌ<JZbĖÜHZƥƦĈƗĕZAĲŦÈfLNŅ.&ĄÈ÷L|Ɲƞė6Ʀ3ÿĺĿŧǟèW(KĖëĖŧǟjŁȪ18D74ȫ#ǇƏȬȭ?t|Ɲƞė6Ʀ2p..6Zıp>>6ƥčĖĖĘǠ@ĳ(6Ǡ9ĉŘ%'ęŨ+É.É>"
example(zk8 zf9 zk5 zc9):"D38/_law_single_hall/_law_state _law_size _law_there _law_most/_law_shuts _law_left _law_kinds _law_places _law_turn _law_cell _law_kind_here _law_ways _law_strong/U_law_covered _law_kind_here _law_place/D_law_take _law_state _law_many":="ũĎàåŧǡçèģÂé#/##ãû)Śêŧǡn×ǃXØ-47#*Ū$b+:(:RÀÕôkìNƧ%á$.Añą*:ũȮ=>S*/#^F*Õôá*tľGĲŦï.ĄÈūØƨìŬÆ>IśôBi2ȯeȰXȱȲȳF*~ƩìŬÆ>Ǣtľ2T=uSZ#/##5##OôBôB#iŇp++,dė,ŭňŉƪ,,ĒŐř06uţÃŖòòƣƤ1&06Zp((ÝÎ49ęŨ'É+É("
example(zn8 zi9 zv0 zc2):"D37/_law_ring_hall/_law_state _law_small/_law_wide _law_high _law_x _law_y _law_there _law_cell _law_east _law_size _law_cells _law_way _law_most/D_law_take _law_state _law_many/U_law_covered _law_kind_here _law_place/D_law_single_hall _law_state _law_size _law_there _law_most":="G2T=$S%#/##5##OŮŮ#aƟâ4T=$S%#/##5##O&Ů#GaĚņľÏ$%2TàS*#/##5##Oů&3ů&;#?+úx_Hĉõ$%~ĕ*(AaĮÈūØJ(9C'Űl<3ÈūØJ(9C*ŰűŲÖmĲŦńǣ$&Ąńǣ%&ĚıǤųDF+ƨì<Űűx9cð.@ŲÎ<ĆŰű>vŤdl<3ůŴ&3<łdűůŴ&;IbtŵH>ŚuPGĐuǤųDF+ÃNĴ+Ƅ#ƅŔǥ+ȴȵĐuŲÃėŶtRÛZĒcüĒðNšȶī3&0ŝŞşŠŜ)ŝŞşŠēC>ęĴ+Ƅ#ƅEZ"
example(zn9 zj0 zv1 zc3):"D39/_law_full_hall/_law_state _law_most/_law_size _law_cells _law_left _law_order _law_turn _law_places _law_kinds _law_place _law_ways _law_strong/D_law_take _law_state _law_many/U_law_covered _law_kind_here _law_place":="?$îŷĚ$îmŷńf)&$vŗƫ%ŵH$Śb'Ū%*:mÀłťŔƧ)á%+@ȷeS'F*F'ÕŶ'(ďI&mŷĚ(ďÖ&.:Rč((Ę>ıT=tSu#/##5##OPP#Ňp..,ňÚƬ,,&ÚƬ,,&ŉƪ,,ĒŐőėţÃŖòòƣƤ1&06uÎ39ęĵŸĴ'ǋǌ#É.É("
example(zq1 zk2 zw7 zu7):"D40/_law_any_hall/_law_state/_law_way/D_law_take _law_state _law_many/D_law_ring_hall _law_state _law_small/D_law_full_hall _law_state _law_most/D_law_hall _law_state _law_broad _law_much":="?)Psï)ôŢY0Rsï)ēBĔ`ȸƎÅäP&k|ȹĬ&&"
example(zy2 zq7 yf9 zf8):"D41/_law_lined/_law_state _law_hall_here/_law_wide _law_high _law_shuts _law_kinds _law_ways _law_made _law_kind_here/D_law_take _law_state _law_many":="ĝh)ƭ'Ʈ$%Ư'*+ŏqőŋ(:č**Ę.@p((ddĻĆļĽ&vŎqŘ++Æ.ďĆ&9Ř$%C'É("
example(zu6 zo4 yc7 ze7):"U42/_law_stands/_law_hall_here _law_places/_law_wide _law_high _law_shuts _law_kinds _law_met _law_kind_here _law_place _law_cell/U_law_covered _law_kind_here _law_place":="ĝh-ƭ'Ʈ$%Ư'*+úRưU*)Ⱥ#ȻOh*h)Ï(.AxÜV(.>isįƱÑƐ18DÝzƱ×ūØ><ǦƲǧ18Ê÷fLL&Ŭ3Ʋǧ18Ê÷fLL&Ŭ;YŲÝY"
example(zk9 zh3 zq9 ze5):"D43/_law_other_stand/_law_state _law_hall_here _law_stand/_law_places _law_turn _law_n _law_other _law_tried/D_law_take _law_state _law_many/U_law_stands _law_hall_here _law_places":="ŋ%Ū$Àƫ'Añą%:ũTer#/##5##OŶ%Ŷ%#(Ū%ƂǨĚ@ȼ#öö18Iz9oÄ(züÄ(I#ȽǩǪȾ#ǫƳöǬƴǫƳöȿƴɀ@Ɂö18IvŊÇÆ)ÇÆ)ɂǩǪƳöǬƴaâÜH)(ɃK(Ʉ=%/#^h(NŨ%"
example(yf2 zy7 yp2 xf9):"U44/_law_due/_law_hall_here _law_one _law_other//Usides hall stand/Ulines hall stand/Uring_order hall stand/Usign hall stand":="ǭŹýVMŹíHHMĩŹŀ}MŹí``MÞ"
example(ue6 vr3 vt9 zz7):"L45/law/_law_script/_law_state _law_turn _law_hall_here _law_stand _law_more _law_other _law_due_here _law_found/D_law_take _law_state _law_many/D_law_any_hall _law_state/D_law_lined _law_state _law_hall_here/D_law_other_stand _law_state _law_hall_here _law_stand/U_law_due _law_hall_here _law_one _law_other/Uunlike hall one other":="RÀłťóVB$G2ņóH0Ï%'ŷśóVB%ó}E%AÀB*b+ó`õ%'(ĈƗĕ+AxvŊĈǮĕ+ĈǮõ+'.AsĮą.ÖķźƒƓĆÞźƒƓÖÞYY"
section
variable{P:Program}{w:World}{K:FG}{mg:Str->Option Value}{base:Heap}
open H in
def ue(F:CL K "law" "law" vr3 f fd){k:Nat}(o:Dq P w K mg base k "_law_begin" ["_law_script"] (Ie K))(n:∀(p l:Addr) (c:Value) (A:Around) (b:List Env) (s:Shared) (H:Hp) (E:XK),Bc k (A.deeper (envOfC "law" (A9 vr3) s.heap.objs.size f c))->CM (Do CX0 P w K mg base vt9 "law" (A9 vr3) f c A b s H E).nox (cxS (WdS p l) K (λ_=>none)) ((Co vr3).drop 1) B)(x:∀ns:List Int,ns.length<=63->Ab (B (Bu vt9.length) (EO ns,0)) (λg _=>g=.rt (.bl true)) λ_ _=>False):Cn P w K mg base CX0 (k+1) f fd ["_law_script"] (spLaw K):=by
 refine F.ok zz7 (λa H Q E h=>?_) (λc A b s H a Q E e h=>?_)
 ·obtain⟨a,ns,rfl,_⟩:=h;rfl
 ·obtain⟨a,ns,rfl,v,d,q⟩:=h
  obtain⟨y,r,u,f,j,h⟩:=o.ex;refine{_,bA (bB (i:=1) zz7.nd rfl (Or.inl rfl) (fZ (E:=E0) h e (by rfl) u f j .nil gf (bp (pv 0) bu))) (qQ (K:=K) λp l=>n p l c A b s H E e),?_};refine{.ref a,rfl,a,ns,rfl,v,d,λp l h a b f e c=>?_};have b:(EO ns).length<=63/\EO ns≠[]:=by
   unfold EO;split
   ·exact{'z','d'}
   ·rename_i a;exact⟨d,a⟩
  refine{p,l,Bu vt9.length,(EO ns,0),qR (m:=vt9.length-2),{e,c,b.2,b.1,EW 0},?_};refine ak (x ns d) (λg a e=>?_) λx a e=>e.elim
  subst e;intro v H2 _ _ z;rw[Is.bl_iff.mp z];exact q H2
end
def cN{i j:Int}:BE false (.int i) (.int j)=some (.bl (i == j)):=aS
def cO{i j:Int}:BE true (.int i) (.int j)=some (.bl (!(i == j))):=aS
def cP{i j:Str}:BE false (.str i) (.str j)=some (.bl (i == j)):=cj
section
variable{S:Type}{E:AM->S->Prop}{Q:Fl->S->Prop}{B:Ay S}
def hH{g:BD}(I:Nat->Ag->S->Prop){l:List D}{Z:Ag}{b:S}(n:Nat)(e:I n Z b)(f:∀i d Z b,l[i]?=some d->I (n+i) Z b->∀P:Fl->S->Prop,(∀c a,I (n+i+1) c a->P (.nx c) a)->(∀d a,Q (.rt d) a->P (.rt d) a)->∃c,g d Z=some c/\Ab (B c b) P E)(j:∀Z b,I (n+l.length) Z b->Q (.nx Z) b):Ab (Dp S g B l Z b) Q E:=
 gJ I n e (λi d Z b h a=>f i d Z b h a _ (λ_ _ z=>z) λ_ _ z=>z) j
def aO{g:BD}(I:Nat->Ag->S->Prop){l:List D}{Z:Ag}{a:S}(n:Nat)(f:I n Z a)(j:∀i d Z a,l[i]?=some d->I (n+i) Z a->∀P:Fl->S->Prop,(∀c b,I (n+i+1) c b->P (.nx c) b)->∃e,g d Z=some e/\Ab (B e a) P E)(c:∀Z a,I (n+l.length) Z a->Q (.nx Z) a):Ab (Dp S g B l Z a) Q E:=
 gJ I n f (λi d Z a h b=>j i d Z a h b _ λ_ _ z=>z) c
def br{F G:Ay S}{Z:Ag}{c:S}(I:Ag->S->Prop)(e:∀P:Fl->S->Prop,(∀b a,I b a->P (.nx b) a)->Ab (F Z c) P E)(d:∀b a,I b a->Ab (G b a) Q E):Ab (FQ S F G Z c) Q E:=
 qZ I (e _ λb a h=>⟨b,rfl,h⟩) d
def l7{t:AV S}{Z:Ag}{e:S}(I:Ag->S->Prop)(μ:Ag->S->Nat)(g:I Z e)(i:∀Z e,I Z e->∀(P:Fl->S->Prop) (f:S->Prop),(∀c a,I c a->μ c a<μ Z e->P (.nx c) a)->(∀d b,Q (.rt d) b->P (.rt d) b)->(∀c,Q (.nx Z) c->f c)->Ab (t Z e) (λb c=>if b=true then Ab (B Z c) P E else f c) E):Ab (FR S t B Z e) Q E:=
 qY I μ g λZ e h=>i Z e h _ (λc=>Q (.nx Z) c) (λ_ _ a b=>⟨a,b⟩) (λ_ _ z=>z) λ_ z=>z
end
def hJ{i j:Int}(h:DK i j):Ij (.int i) (.int j)=some (.int (i*j)):=by
 unfold Ij;rw[gM h];rfl
abbrev Ae:=Int×Int
def Aa(p:Ae):D:=.tup [.int p.1,.int p.2]
def ao(p:Ae):(Aa p).imm=true:=id rfl
def dC(p:Ae):(Aa p).dep<=1:=Al 1
def Bl(h:Int)(p:Ae)(i:Nat):List Ae:=(List.range h.toNat).map λ(j:Nat)=>(p.1+(i:Int),p.2+(j:Int))
def AA(w h:Int)(p:Ae):List Ae:=(List.range w.toNat).flatMap (Bl h p)
def bN{w h:Int}:q∈AA w h p↔p.1<=q.1/\q.1<p.1+w/\p.2<=q.2/\q.2<p.2+h:=by
 unfold AA Bl;simp only[List.mem_flatMap,List.mem_range,Cv];constructor
 ·rintro ⟨i,b,j,a,rfl⟩
  refine{?_,?_,?_,?_}<;>simp<;>omega
 ·rintro ⟨c,a,d,b⟩
  refine{(q.1-p.1).toNat,'o',(q.2-p.2).toNat,'o',?_};refine Prod.ext ?_ ?_<;>simp<;>omega
def cq{w h:Int}:(AA w h p).length=w.toNat*h.toNat:=by
 unfold AA Bl;rw[List.length_flatMap];simp only[Ai,Fj,List.map_const',List.sum_replicate_nat]
instance kd(w h:Int)(ways:Str)(s:Int):D:=.tup [.int w,.int h,.str ways,.int s]
def hM{w h:Int}{a:Str}{s:Int}:(kd w h a s).imm=true:=id rfl
def at0:BC [a,b,c,d] 0=some a:=rfl
def at1:BC [a,b,c,d] 1=some b:=rfl
def at2:BC [a,b,c,d] 2=some c:=rfl
def pt0:BC [a,b] 0=some a:=rfl
def pt1:BC [a,b] 1=some b:=rfl
def DQ:List D->Ap Unit D:=Bj 4 2 zm4.1
def ed(a:D.immL m=true)(b:l.length+m.length<=1000):HV l (.lst m)=some (l++m):=by
 show (if D.immL m=true/\l.length+m.length<=sizeLine then some (l++m) else none)=_;rw[if_pos {a,aU b}]
def cQ{a b c d:Nat}(e:a<=c)(f:b<=d):a*b<=c*d:=Nat.mul_le_mul e f
def hO{w h:Int}{ways:Str}{s:Int}(a:w<=30)(c:h<=30)(b:0<=w)(g:0<=h)(f:Q (.lst ((AA w h p).map Aa)) ()):Ab (DQ [kd w h ways s,Aa p]) Q E:=by
 refine aK rfl 'z' ?_;unfold zm4;dsimp only;simp?! [ax,bn,kd,Au,at0,at1];rw[ba 'o' b];refine aO (λi Z a=>∃x,Z=[.bor (kd w h ways s),.bor (Aa p),.own (.lst (((List.range i).flatMap (Bl h p)).map Aa)),x]) 0 {_,rfl} (λi d Z a b c P l=>?_) λZ a c=>?_
 ·obtain⟨x,e⟩:=c
  obtain⟨rfl,j⟩:=bg b;subst e;have a:∀i:Nat,D.immL (((List.range i).flatMap (Bl h p)).map Aa)=true:=λi=>am ao _
  refine{_,rfl,?_};simp?! [ax,AF,a,kd,Au,at0,at1];rw[ba 'o' g];refine dm (λd=>match d with | .int j=>Aa (p.1+(i:Int),p.2+j) | _=>.non) (λZ=>∃x,Z=[x,.bor (.int (0+(i:Int))),.bor (Aa p)]) {_,rfl} (λd b Z hI133=>?_) (aU (by rw[bq];omega)) ?_
  ·obtain⟨x,e⟩:=hI133
   subst e;obtain⟨j,m⟩:=List.getElem?_of_mem b;obtain⟨rfl,g⟩:=bg m;refine{_,rfl,{_,rfl},⟨rfl,rfl⟩,?_};simp?! [ax,Aa,Au,pt0,pt1,AJ,AD,aW];simp
  ·have e:(Cq 0 h.toNat).map (λd=>match d with | .int j=>Aa (p.1+(i:Int),p.2+j) | _=>D.non)=(Bl h p i).map Aa:=by
    unfold Cq Bl;rw[Cf,Cf];refine FD λj _=>?_
    simp[Aa]
   rw[e];refine{_,ed (am ao _) ?_,l _ _ {.bor (.int (0+(i:Int))),?_}}
   ·rw[Ai,Ai,List.length_flatMap]
    unfold Bl;simp only[Ai,Fj,List.map_const',List.sum_replicate_nat];have:i*h.toNat<=29*30:=cQ 'o' 'o';omega
   ·rw[FJ,Fg,A7]
    simp[kd]
 ·obtain⟨x,e⟩:=c
  subst e;rw[bq,Aq];have a:∀i:Nat,D.immL (((List.range i).flatMap (Bl h p)).map Aa)=true:=λi=>am ao _
  simp?! [ax,a];exact f
def Iz:List D->Ap Unit D:=Bj 5 3 zr8.1
def D9(wide high w h:Int)(ways:Str):Int:=if ways = "any" then (wide-w+1)*(high-h+1) else if ways = "row" then wide-w+1 else if ways = "column" then high-h+1 else 1
def Bo(x:Str):Prop:=x = "any"\/x = "row"\/x = "column"\/x = "none"
def uf{b a w h:Int}{c:Str}{s:Int}(e:0<=b-w)(d:b-w<=100)(f:0<=a-h)(e:a-h<=100)(d:Bo c)(f:Q (.int (D9 b a w h c)) ()):Ab (Iz [.int b,.int a,kd w h c s]) Q E:=by
 refine aK rfl 'z' ?_;unfold zr8;dsimp only;have e:DK (b-w+1) (a-h+1):=.inl {'o','o'};simp?! [ax,kd,Au,at0,at1,at2,AD,AJ,Gz,hJ e];have g:FU c ["any","row","column","none"] [D.int ((b-w+1)*(a-h+1)),D.int (b-w+1),D.int (a-h+1),D.int 1]=some (.int (D9 b a w h c)):=by
  rcases d with e | e | e | e<;>subst e<;>rfl
 rw[g];exact{.inl ah,f}
def IA:List D->Dr->Ap Dr D:=CU 3 2 (zy1 By).1
def ug{b:Bool}{g:Dr}{Q:D->Dr->Prop}{E:AM->Dr->Prop}(a:g.2<2 ^ 39)(h:∀(w h:Int) a,1<=w->w<=9->1<=h->h<=9->(b=true->5<=w/\4<=h)->a.2<=g.2+3->Q (.tup [.int w,.int h]) a):Ab (IA [.bl b] g) Q E:=by
 refine bU rfl 'z' ?_;unfold zy1;dsimp only;simp?! [ax];cases b with
 | true=>
   simp?! [ax];refine ar 'z' 'z' 'o' λl b j e m=>?_
   simp?! [AJ,AD,ax];refine ar 'z' 'z' 'o' λd a i f c=>?_
   simp?! [AJ,AD,ax,aW];exact h _ _ _ 'o' 'o' 'o' 'o' (λ_=>{'o','o'}) 'o'
 | false=>
   simp?! [ax];refine ar 'z' 'z' 'o' λl b j e m=>?_
   simp?! [cN,cO,cP,ax];split
   ·refine ar 'z' 'z' 'o' λd a i f c=>?_
    simp?! [AJ,AD,ax];refine ar 'z' 'z' 'o' λj b n m l=>?_
    simp?! [AJ,AD,ax,aW];exact h _ _ _ 'o' 'o' 'o' 'o' (λe=>by cases e) 'o'
   ·split
    ·refine ar 'z' 'z' 'o' λd a i f c=>?_
     simp?! [AJ,AD,ax];refine ar 'z' 'z' 'o' λj b n m l=>?_
     simp?! [AJ,AD,ax,aW];exact h _ _ _ 'o' 'o' 'o' 'o' (λe=>by cases e) 'o'
    ·refine ar 'z' 'z' 'o' λd a i f c=>?_
     simp?! [AJ,AD,ax];refine ar 'z' 'z' 'o' λj b n m l=>?_
     simp?! [AJ,AD,ax,aW];exact h _ _ _ 'o' 'o' 'o' 'o' (λe=>by cases e) 'o'
def l8{v:Int}(c:0<=v)(b:v<6):∃s:Int,Au (.lst [.int 1,.int 1,.int 1,.int 2,.int 2,.int 3]) (.int v)=some (.int s)/\1<=s/\s<=3:=by
 obtain⟨d,a,e⟩:=cK (l:=[.int 1,.int 1,.int 1,.int 2,.int 2,.int 3]) rfl c (by simpa using b);rw[e];simp only[AL,BW,or_false] at a;rcases a with r | r | r | r | r | r<;>subst r<;>exact{_,rfl,'z','z'}
def uh{v:Int}(c:0<=v)(b:v<6):∃s:Str,Au (.lst [.str "any",.str "any",.str "row",.str "column",.str "row",.str "none"]) (.int v)=some (.str s)/\Bo s:=by
 obtain⟨d,a,e⟩:=cK (l:=[.str "any",.str "any",.str "row",.str "column",.str "row",.str "none"]) rfl c (by simpa using b);rw[e];simp only[AL,BW,or_false] at a;rcases a with r | r | r | r | r | r<;>subst r<;>exact{_,rfl,by simp[Bo]}
def ui{v:Int}(c:0<=v)(b:v<6):∃s:Str,Au (.lst [.str "row",.str "column",.str "row",.str "column",.str "any",.str "none"]) (.int v)=some (.str s)/\Bo s:=by
 obtain⟨d,a,e⟩:=cK (l:=[.str "row",.str "column",.str "row",.str "column",.str "any",.str "none"]) rfl c (by simpa using b);rw[e];simp only[AL,BW,or_false] at a;rcases a with r | r | r | r | r | r<;>subst r<;>exact{_,rfl,by simp[Bo]}
def uj{v:Int}(c:0<=v)(b:v<6):∃s:Int,Au (.lst [.int 0,.int 0,.int 1,.int 1,.int 1,.int (-1)]) (.int v)=some (.int s)/\(s=0\/s=1\/s=-1):=by
 obtain⟨d,a,e⟩:=cK (l:=[.int 0,.int 0,.int 1,.int 1,.int 1,.int (-1)]) rfl c (by simpa using b);rw[e];simp only[AL,BW,or_false] at a;rcases a with r | r | r | r | r | r<;>subst r<;>exact{_,rfl,'z'}
def ee(e:a.imm=true)(f:b.imm=true)(h:c.imm=true)(g:d.imm=true):A6 [a,b,c,d]=some (.tup [a,b,c,d]):=dj (by simp[D.immL,e,f,h,g]) 'd'
def IB:List D->Dr->Ap Dr D:=CU 9 4 (yb1 By).1
def CV(a b:Int):Int:=if b<a then b else a
def cR{a b:Int}:H8 (λi j=>if j<i then j else i) [.int a,.int b]=some (.int (CV a b)):=rfl
def cr{a b:Int}:CV a b<=a/\CV a b<=b/\(CV a b=a\/CV a b=b):=by unfold CV;split<;>omega
def uk{c d:Int}{l:Bool}{z:Dr}{Q:D->Dr->Prop}{E:AM->Dr->Prop}(e:z.2<2 ^ 39)(g:1<=c)(f:c<=9)(e:1<=d)(f:d<=9)(j:l=true->5<=c/\4<=d)(h:∀(a u:Int) (f:Str) (s:Int) e,1<=a->a<=c->1<=u->u<=d->Bo f->(s=0\/s=1\/s=-1)->e.2<=z.2+11->Q (kd a u f s) e):Ab (IB [.int c,.int d,.bl l] z) Q E:=by
 refine bU rfl 'z' ?_;unfold yb1;dsimp only;simp_all!;simp! [ci];simp_all!;simp!;refine ar 'z' 'z' 'o' λg f m i n=>?_
 obtain⟨f,g,o,n⟩:=l8 m i;simp! [g,cR];refine ar 'z' 'z' 'o' λi g m n o=>?_
 obtain⟨g,i,p,o⟩:=l8 m n;simp! [i,cR];simp_all!;simp! [ci];refine ar 'z' 'z' 'o' λn m p i r=>?_
 obtain⟨n,q,o⟩:=uh p i;simp! [q];have m:=cr (a:=c) (b:=f);have i:=cr (a:=d) (b:=g);generalize CV c f=A1 at m;generalize CV d g=A2 at i;refine br (λZ e=>∃(a u:Int) (x:Str) (y:Sl),Z=[Sl.hnd,.bor (.int c),.bor (.int d),.bor (.bl l),.own (.lst [.int 1,.int 1,.int 1,.int 2,.int 2,.int 3]),.bor (.int a),.bor (.int u),.bor (.str x),y]/\1<=a/\a<=c/\1<=u/\u<=d/\Bo x/\e.2<=z.2+6) ?_ ?_
 ·intro f i
  simp!;cases l with
  | false=>
    simp!;exact i _ _ {A1,A2,n,_,rfl,'o','o','o','o',o,'o'}
  | true=>
    obtain⟨g,f⟩:=j rfl;rw[if_pos rfl,ax];simp! [ci];refine ar 'z' 'z' 'o' λv m a4 b4 F=>?_
    obtain⟨f,g,B⟩:=ui a4 b4;simp! [g];refine br (λZ e=>∃(a u:Int) (y:Sl),Z=[Sl.hnd,.bor (.int c),.bor (.int d),.bor (.bl true),.own (.lst [.int 1,.int 1,.int 1,.int 2,.int 2,.int 3]),.bor (.int a),.bor (.int u),.bor (.str f),y]/\1<=a/\a<=c/\1<=u/\u<=d/\e.2<=m.2+1) ?_ ?_
    ·intro P2 f
     simp! [cN,cO,cP];split
     ·refine ar 'z' 'z' 'o' λE g o n C=>?_
      simp! [AD];exact f _ _ {_,_,_,rfl,'o','o','o','o','o'}
     ·exact f _ _ {A1,A2,_,rfl,'o','o','o','o','o'}
    ·rintro A g ⟨a,u,y,rfl,r,q,s,p,f⟩
     simp! [cN,cO,cP];split
     ·refine ar 'z' 'z' 'o' λE j o n C=>?_
      simp! [AD];exact i _ _ {_,_,_,_,rfl,'o','o','o','o',B,'o'}
     ·exact i _ _ {a,u,_,_,rfl,'o','o','o','o',B,'o'}
 ·rintro A m ⟨a,u,x,y,rfl,r,q,s,p,f,i⟩
  simp_all!;simp!;refine ar 'z' 'z' 'o' λv g a4 b4 F=>?_
  simp!;refine br (λZ e=>∃(a u:Int) (x:Str),Z=[Sl.hnd,.bor (.int c),.bor (.int d),.bor (.bl l),.own (.lst [.int 1,.int 1,.int 1,.int 2,.int 2,.int 3]),.bor (.int a),.bor (.int u),.bor (.str x),.bor (.int v)]/\1<=a/\a<=c/\1<=u/\u<=d/\Bo x/\e.2<=g.2+1) ?_ ?_
  ·intro i g
   simp! [cN,cO,cP];split
   ·have m:=cr (a:=d) (b:=3)
    simp! [cR];generalize CV d 3=B at m;refine ar 'o' 'o' 'o' λE j o n C=>?_
    simp! [AD];exact g _ _ {_,_,_,rfl,'o','o','o','o',by simp[Bo],'o'}
   ·exact g _ _ {a,u,x,rfl,'o','o','o','o',f,'o'}
  ·rintro A j ⟨a,u,x,rfl,r,q,s,p,f,g⟩
   refine br (λZ e=>∃(a u:Int) (x:Str),Z=[Sl.hnd,.bor (.int c),.bor (.int d),.bor (.bl l),.own (.lst [.int 1,.int 1,.int 1,.int 2,.int 2,.int 3]),.bor (.int a),.bor (.int u),.bor (.str x),.bor (.int v)]/\1<=a/\a<=c/\1<=u/\u<=d/\Bo x/\e.2<=j.2+1) ?_ ?_
   ·intro i g
    simp! [cN,cO,cP];split
    ·have m:=cr (a:=c) (b:=3)
     simp! [cR];generalize CV c 3=B at m;refine ar 'o' 'o' 'o' λE i o n C=>?_
     simp! [AD];exact g _ _ {_,_,_,rfl,'o','o','o','o',by simp[Bo],'o'}
    ·exact g _ _ {a,u,x,rfl,'o','o','o','o',f,'o'}
   ·rintro A i ⟨a,u,x,rfl,r,q,s,p,f,g⟩
    refine br (λZ e=>∃(a u:Int) (x:Str),Z=[Sl.hnd,.bor (.int c),.bor (.int d),.bor (.bl l),.own (.lst [.int 1,.int 1,.int 1,.int 2,.int 2,.int 3]),.bor (.int a),.bor (.int u),.bor (.str x),.bor (.int v)]/\1<=a/\a<=c/\1<=u/\u<=d/\Bo x/\e.2<=i.2) ?_ ?_
    ·intro g e
     simp! [cN,cO,cP];split
     ·have m:=cr (a:=c) (b:=4)
      have g:=cr (a:=d) (b:=4);simp! [cR];generalize CV c 4=B at m;generalize CV d 4=B' at g;exact e _ _ {_,_,_,rfl,'o','o','o','o',by simp[Bo],'o'}
     ·exact e _ _ {a,u,x,rfl,'o','o','o','o',f,'o'}
    ·rintro A e ⟨a,u,x,rfl,r,q,s,p,f,e⟩
     simp! [ci];refine ar 'z' 'z' 'o' λE e o n C=>?_
     obtain⟨i,g,j⟩:=uj o n;simp! [g,ee];exact h a u x i e r q s p f j 'o'
structure Tr where
 w:Int
 h:Int
 ways:Str
 s:Int
 x:Int
 y:Int
instance Tr.kind(t:Tr):D:=kd t.w t.h t.ways t.s
instance Tr.place(t:Tr):D:=Aa (t.x,t.y)
instance Tr.cells(t:Tr):List Ae:=AA t.w t.h (t.x,t.y)
structure JJ(wide high:Int)(sh:List Ae)(t:Tr):Prop where
 w1:1<=t.w
 h1:1<=t.h
 x0:0<=t.x
 xw:t.x+t.w<=wide
 y0:0<=t.y
 yh:t.y+t.h<=high
 ways:Bo t.ways
 st:t.s=0\/t.s=1\/t.s=-1
 free:∀c∈t.cells,c∉sh
structure IC(wide high:Int)(sh:List Ae)(ts:List Tr):Prop where
 w1:1<=wide
 w9:wide<=9
 h1:1<=high
 h9:high<=9
 sub:sh.Sublist (AA wide high (0,0))
 few:ts.length<=12
 tr:∀t∈ts,JJ wide high sh t
 apart:ts.Pairwise λa b=>∀c∈a.cells,c∉b.cells
def Am(wide high:Int)(sh:List Ae)(ts:List Tr):D:=.tup [.int wide,.int high,.tup (sh.map Aa),.tup (ts.map Tr.kind)]
def AB(ts:List Tr):D:=.tup (ts.map Tr.place)
def bz(t:Tr):t.kind.imm=true:=hM
def eg(t:Tr):t.place.imm=true:=ao _
instance ck(c:Ae):List Ak:=[.inl c.1,.inl c.2]
def aR(c:Ae):AG (Aa c)=some (ck c):=rfl
def ej(h:ck a=ck b):a=b:=by
 unfold ck at h;have c:a.1=b.1/\a.2=b.2:=by simpa using h
 exact Prod.ext c.1 c.2
def D0(T:List Ae)(k:List Ak):Prop:=∃c∈T,ck c=k
def l9:D0 T (ck c)↔c∈T:={λ⟨d,a,e⟩=>by rw[<-ej e];exact a,λh=>⟨c,h,rfl⟩}
def bO{w h:Int}(a:w<=9)(b:h<=9):(AA w h p).length<=81:=by
 rw[cq];exact cQ (c:=9) (d:=9) 'o' 'o'
def JK(T:List Ae):D->D
 | .tup [.int x,.int y]=>.bl (decide ((x,y)∈T))
 | _=>.non
def ul(T:List Ae)(l:List Ae):(l.map Aa).map (JK T)=l.map λc=>.bl (decide (c∈T)):=by rw[Cf];rfl
def Fz(wide high:Int)(ts:List Tr):Int:=ts.foldr (λt r=>D9 wide high t.w t.h t.ways*r) 1
theorem ma{b a:Int}:∀{c:List Tr},Fz b a (c++[t])=Fz b a c*D9 b a t.w t.h t.ways
 | []=>by simp[Fz]
 | u::c=>by
   show D9 b a u.w u.h u.ways*Fz b a (c++[t])=D9 b a u.w u.h u.ways*Fz b a c*D9 b a t.w t.h t.ways;rw[ma,Int.mul_assoc]
def ID:List D->Dr->Ap Dr D:=CU 17 3 (yb2 IA DQ By IB Iz).1
def FA(d:D):D:=.tup [d,.bl true]
def um(l:List Ae):EA ((l.map Aa).map FA)=some (l.map λc=>(ck c,.bl true)):=by
 induction l with
 | nil=>rfl
 | cons c l a=>
   show EA (.tup [Aa c,.bl true]::(l.map Aa).map FA)=_;unfold EA;rw[if_pos aq,aR,a];rfl
open H in
def uo{C1:Bool}{r:Int}{st:Dr}{Q:D->Dr->Prop}{E:AM->Dr->Prop}(hs:st.2<2 ^ 38)(hm1:1<=r)(hm2:r<=1000000000000)(hq:∀f g l z L,IC f g l z->Fz f g z<=r->L.2<=st.2+500->Q (.tup [Am f g l z,AB z]) L):Ab (ID [.bl C1,.int r] st) Q E:=by
 refine bU rfl 'z' ?_;unfold yb2;dsimp only;simp_all!;simp!;refine ug 'o' λf g st1 w1 w9 F h9 hb t1=>?_
 simp!;simp_all!;simp! [ee,aW];refine hO (ways:="none") (s:=0) (p:=(0,0)) 'o' 'o' 'o' 'o' ?_;simp! [am ao];simp_all!;simp!;have hc81:(AA f g (0,0)).length<=81:=bO w9 h9;refine di (λn acc Z L=>∃l x,acc=l.map Aa/\l.Sublist ((AA f g (0,0)).take n)/\Z=[x,Sl.hnd,.bor (.bl C1)]/\L.2<=st1.2+n) 0 {[],_,rfl,'d',rfl,'d'} (λi d acc Z L B hI=>?_) λacc Z L hI=>?_
 ·obtain⟨l,x,e1,e2,e3,e4⟩:=hI
  rw[AX] at B;cases q:(AA f g (0,0))[i]? with
  | none=>rw[q] at B;cases B
  | some c=>
    rw[q] at B;cases B;subst e1 e3;have hi:i<(AA f g (0,0)).length:=(Bd.mp q).1;have hsl:=e2.length_le;rw[B9] at hsl;have G:(AA f g (0,0)).take (i+1)=(AA f g (0,0)).take i++[c]:=by rw[Cu,q];rfl
    rw[Aq] at e2 e4;refine{_,rfl,?_};simp! [Gn,gK,kM];have tk2:∃m:Int,(if C1=true then D.int 20 else D.int 9)=.int m/\0<m/\m<1073741824:=by
     split
     ·exact{_,rfl,'z','z'}
     ·exact{_,rfl,'z','z'}
    obtain⟨m,em,m0,m1⟩:=tk2;rw[em];refine ar m0 m1 'o' λv st2 a2 b2 c2=>?_
    simp! [cN,cO,cP];split
    ·refine{ao c,lt_size (by rw[Ai];omega),l++[c],_,by rw[A7];rfl,?_,rfl,'o'}
     rw[G];exact e2.append (List.Sublist.refl _)
    ·refine{l,_,rfl,?_,rfl,'o'}
     rw[G];exact e2.trans (List.sublist_append_left _ _)
 ·obtain⟨l,x,e1,e2,e3,e4⟩:=hI
  subst e1;rw[Aq,Ai,Ck] at e2;rw[Aq,Ai] at e4;have hsh:l.length<=81:=Aw e2.length_le hc81;simp! [am ao];simp_all!;simp!;refine dm FA (λZ=>∃x,Z=[x]) {_,rfl} (λd B Z hI134=>?_) (aU (by rw[Ai];omega)) ?_
  ·obtain⟨x,e⟩:=hI134
   subst e;obtain⟨c,N,rfl⟩:=Cv.mp B;refine{_,rfl,{_,rfl},⟨rfl,rfl⟩,?_};simp! [aW,ao,FA]
  ·have od:Ib [.lst ((l.map Aa).map FA)]=some (.dct (.non::(Cj (l.map λc=>(ck c,.bl true)) ([],[])).1) (Cj (l.map λc=>(ck c,.bl true)) ([],[])).2):=by
    show (if ((l.map Aa).map FA).length<sizeLine then (EA ((l.map Aa).map FA)).map _ else none)=_;rw[if_pos (lt_size (by simp;omega)),um];rfl
   have hh:=Holds.all (ps:=l.map λc=>(ck c,D.bl true)) (Holds.nil (n:=0)) (λp hp=>by obtain⟨c,_,rfl⟩:=Cv.mp hp;exact aq);have Y:Holds (.dct (.non::(Cj (l.map λc=>(ck c,.bl true)) ([],[])).1) (Cj (l.map λc=>(ck c,.bl true)) ([],[])).2) l.length (D0 l):=hh.imp 'd' λk=>by
    simp only[false_or,Cv,D0];constructor
    ·rintro ⟨p,⟨c,N,rfl⟩,e⟩;exact⟨c,N,e⟩
    ·rintro ⟨c,N,e⟩;exact{_,⟨c,N,rfl⟩,e}
   rw[od];generalize D.dct (.non::(Cj (l.map λc=>(ck c,.bl true)) ([],[])).1) (Cj (l.map λc=>(ck c,.bl true)) ([],[])).2=G at Y;have fl:=Y.flat;simp! [fl];simp_all!;simp! [bn];simp_all!;simp! [bn];simp_all!;simp!;simp_all!;simp!;refine ar 'z' 'z' 'o' λv2 st2 a2 b2 c2=>?_
   have hmany:∃I:Int,(if C1=true then D.int 30 else D.int (2+v2))=.int I/\0<=I/\I<=30:=by
    split
    ·exact{_,rfl,'o','o'}
    ·exact{_,rfl,'o','o'}
   obtain⟨I,em,hm0,hm3⟩:=hmany;simp! [AJ,AD,Gn,gK,kM,em];rw[ba 'o' hm0];refine aO (λi Z o=>∃(z:List Tr) (T:List Ae) (G:D) (J:Int) (y11 y12 y13 y14 y15 C:Sl),Z=[Sl.hnd,.bor (.bl C1),.bor (.int r),.bor (.int f),.bor (.int g),.own (.lst ((AA f g (0,0)).map Aa)),.own (.lst (l.map Aa)),.own G,.own (.lst (z.map Tr.kind)),.own (.lst (z.map Tr.place)),.bor (.int J),y11,y12,y13,y14,y15,C]/\IC f g l z/\Holds G (81+81*i) (D0 T)/\(∀c,c∈T↔c∈l\/∃t∈z,c∈t.cells)/\1<=J/\J<=r/\J=Fz f g z/\o.2<=st2.2+13*i) 0 {[],l,G,1,_,_,_,_,_,_,rfl,{w1,w9,F,h9,e2,'d',λt A=>(by cases A),List.Pairwise.nil},Y.imp 'o' λ_=>Iff.rfl,'d','o','o',rfl,'d'} (λi d Z o B hI P pn=>?_) λZ o hI=>?_
   ·obtain⟨z,T,G,J,y11,y12,y13,y14,y15,C,er,ho,Y,N,R,O,M,hst⟩:=hI
    obtain⟨rfl,hi⟩:=bg B;subst er;rw[Aq] at Y hst;have hb2:o.2<2 ^ 38+1000:=by omega
    have hi30:i<30:=by omega
    clear hs t1 e4 c2 a2 b2 hm0 hm3 hi em;refine{_,rfl,?_};simp_all!;simp!;refine uk 'o' w1 w9 F h9 hb λa u ways s st3 g1 g2 g3 g4 g5 g6 t3=>?_
    have kf:(kd a u ways s).flat=false:=rfl;simp! [kf];simp_all!;simp! [kd,Au,at0,at1,AD,AJ];refine ar 'o' 'o' 'o' λx st4 a4 b4 c4=>?_
    refine ar 'o' 'o' 'o' λy st5 a5 b5 c5=>?_
    simp! [aW];simp_all!;simp!;refine hO (p:=(x,y)) 'o' 'o' 'o' 'o' ?_;simp! [am ao];simp_all!;simp!;refine uf 'o' 'o' 'o' 'o' g5 ?_;have W:1<=D9 f g a u ways/\D9 f g a u ways<=81:=by
     have z1:1<=f-a+1/\f-a+1<=9:=by omega
     have z2:1<=g-u+1/\g-u+1<=9:=by omega
     unfold D9;split
     ·constructor
      ·have:=Int.mul_le_mul z1.1 z2.1 'o' 'o';omega
      ·have:=Int.mul_le_mul z1.2 z2.2 'o' 'o';omega
     ·split
      ·omega
      ·split<;>omega
    generalize hrm:D9 f g a u ways=room at W;have hown:(AA a u (x,y)).length<=81:=bO 'o' 'o';have cm:DK J room:=.inr {'o','o'};simp! [BF,Ai,AD,hJ cm];split
    ·rename_i hlen
     have hlen:z.length<12:=by have:=of_decide_eq_true hlen;omega
     split
     ·rename_i hle
      have hle:J*room<=r:=of_decide_eq_true hle;refine dm (JK T) (λZ=>∃x,Z=[x,.bor G]) {_,rfl} (λd B Z hI135=>?_) (aU (by rw[Ai];omega)) ?_
      ·obtain⟨x',e⟩:=hI135
       subst e;obtain⟨c,hc',rfl⟩:=Cv.mp B;refine{_,rfl,{_,rfl},⟨rfl,rfl⟩,?_};simp! [(Y.in_ (aR c) (b:=decide (c∈T)) (by rw[decide_eq_true_eq,l9])).1];rfl
      ·rw[ul]
       simp! [Gp,fg,Option.map_some];split
       ·rename_i hany
        have U:∀c∈AA a u (x,y),c∉T:=λc hc' hcT=>by
         have:(List.map (λc=>decide (c∈T)) (AA a u (x,y))).any id=true:=by
          rw[List.any_map,List.any_eq_true];exact{c,hc',by simpa using hcT}
         rw[this] at hany;cases hany
        have hpos:1<=J*room:=by have:=Int.mul_le_mul R W.1 'o' 'o';omega
        simp_all!;simp! [hJ cm];simp_all!;simp! [AF,am bz];refine{_,bV rfl (by rw[Ai];omega),?_};simp_all!;simp! [AF,am eg];refine{_,bV rfl (by rw[Ai];omega),?_};simp!;refine aO (λj Z o=>∃(tk':D) (C:Sl),Z=[Sl.hnd,.bor (.bl C1),.bor (.int r),.bor (.int f),.bor (.int g),.own (.lst ((AA f g (0,0)).map Aa)),.own (.lst (l.map Aa)),.own tk',.own (.lst (z.map Tr.kind++[D.tup [.int a,.int u,.str ways,.int s]])),.own (.lst (z.map Tr.place++[D.tup [.int x,.int y]])),.bor (.int (J*room)),.bor (.int (0+(i:Int))),.bor (D.tup [.int a,.int u,.str ways,.int s]),.bor (D.tup [.int x,.int y]),.bor (.lst ((AA a u (x,y)).map Aa)),.bor (.int room),C]/\Holds tk' (81+81*i+j) (D0 (T++(AA a u (x,y)).take j))/\o=st5) 0 {G,_,rfl,by simpa using Y,rfl} (λj d Z o B hI P2 pn2=>?_) λZ o hI=>?_
        ·obtain⟨tk',C,er,hT',es⟩:=hI
         rw[AX] at B;cases q:(AA a u (x,y))[j]? with
         | none=>rw[q] at B;cases B
         | some c=>
           rw[q] at B;cases B;subst er es;have hj:j<(AA a u (x,y)).length:=(Bd.mp q).1;obtain⟨ks,vs,rfl,k1,k2,k3,k4⟩:=id hT';refine{_,rfl,?_};simp! [BL,k1,aR];refine{ks,vs,rfl,dZ 'o',pn2 _ _ {_,_,rfl,?_,rfl}};refine(hT'.put (k:=ck c) (v:=.bl true) aq).imp 'o' λk=>?_
           rw[Aq,Cu,q];simp only[D0,Br,Option.toList,A8];constructor
           ·rintro (⟨c',F,h2⟩ | h)
            ·exact{c',by rcases F with F | F<;>simp[F],h2}
            ·exact{c,'d',h}
           ·rintro ⟨c',F,h2⟩
            rcases F with F | F | F
            ·exact .inl {c',.inl F,h2}
            ·exact .inl {c',.inr F,h2}
            ·subst F;exact .inr h2
        ·obtain⟨tk',C,er,hT',es⟩:=hI
         subst er es;rw[Aq,Ai,Ck] at hT';have hnew:JJ f g l ⟨a,u,ways,s,x,y⟩:={g1,g3,a4,by show x+a<=f;omega,a5,by show y+u<=g;omega,g5,g6,λc hc' hcs=>U c hc' ((N c).mpr (.inl hcs))};refine pn _ _ {z++[⟨a,u,ways,s,x,y⟩],T++AA a u (x,y),tk',J*room,.bor (.int (0+(i:Int))),.bor (D.tup [.int a,.int u,.str ways,.int s]),.bor (D.tup [.int x,.int y]),.bor (.lst ((AA a u (x,y)).map Aa)),.bor (.int room),C,?_,{w1,w9,F,h9,ho.sub,by rw[A4];simp;omega,λt A=>?_,?_},hT'.imp 'o' λ_=>Iff.rfl,λc=>?_,hpos,hle,by rw[ma,M];exact hrm▸rfl,'o'}
         ·rw[A7,A7];rfl
         ·rcases Br.mp A with A | A
          ·exact ho.tr t A
          ·rw[A8.mp A];exact hnew
         ·refine Eh.mpr {ho.apart,List.pairwise_singleton _ _,λt A t' ht' c hc1 hc2=>?_}
          rw[A8.mp ht'] at hc2;exact U c hc2 ((N c).mpr (.inr ⟨t,A,hc1⟩))
         ·rw[Br,N c]
          constructor
          ·rintro ((h | ⟨t,A,h⟩) | h)
           ·exact .inl h
           ·exact .inr {t,by simp[A],h}
           ·exact .inr {⟨a,u,ways,s,x,y⟩,'d',h}
          ·rintro (h | ⟨t,A,h⟩)
           ·exact .inl (.inl h)
           ·rcases Br.mp A with A | A
            ·exact .inl (.inr ⟨t,A,h⟩)
            ·rw[A8.mp A] at h;exact .inr h
       ·exact pn _ _ {z,T,G,J,_,_,_,_,_,_,rfl,ho,Y.imp 'o' λ_=>Iff.rfl,N,R,O,M,'o'}
     ·exact pn _ _ {z,T,G,J,_,_,_,_,_,_,rfl,ho,Y.imp 'o' λ_=>Iff.rfl,N,R,O,M,'o'}
    ·exact pn _ _ {z,T,G,J,_,_,_,_,_,_,rfl,ho,Y.imp 'o' λ_=>Iff.rfl,N,R,O,M,'o'}
   ·obtain⟨z,T,G,J,y11,y12,y13,y14,y15,C,er,ho,Y,N,R,O,M,hst⟩:=hI
    subst er;rw[bq,Aq] at hst;simp! [BK,am ao,am bz,am eg,ee,aW];exact hq f g l z o ho (M▸O) 'o'
theorem hQ(c:Ae):∀l:List Ae,B4 (Aa c) (l.map Aa)=some (decide (c∈l))
 | []=>by simp[B4]
 | a::l=>by
   show ((D.eqq (Aa a) (Aa c)).bind λb=>(B4 (Aa c) (l.map Aa)).map λx=>b||x)=_;rw[hQ c l];have e:D.eqq (Aa a) (Aa c)=some (decide (a=c)):=by
    show (D.eqq (.int a.1) (.int c.1)).bind (λx=>(D.eqL [.int a.2] [.int c.2]).map λy=>x&&y)=_;rw[bW];show (D.eqL [.int a.2] [.int c.2]).map (λy=>(a.1 == c.1)&&y)=_;show ((D.eqq (.int a.2) (.int c.2)).bind (λx=>(D.eqL [] []).map λy=>x&&y)).map (λy=>(a.1 == c.1)&&y)=_;rw[bW];show some ((a.1 == c.1)&&((a.2 == c.2)&&true))=_;rw[Option.some.injEq,Fo];simp[Prod.ext_iff]
   rw[e];simp only[EE,Option.map_some,Option.some.injEq];by_cases h:a=c
   ·subst h;simp
   ·have b:c≠a:=λz=>h z.symm
    simp[h,b,AL]
def hT{neg:Bool}{c:Ae}{l:List Ae}:oIn neg (Aa c) (.tup (l.map Aa))=some (.bl (if neg then !decide (c∈l) else decide (c∈l)))/\oIn neg (Aa c) (.lst (l.map Aa))=some (.bl (if neg then !decide (c∈l) else decide (c∈l))):=by
 have a:D.depL (l.map Aa)<=30:=Aw (bM dC l) 'z';constructor
 ·show (if D.depL (l.map Aa)<=30 then (B4 (Aa c) (l.map Aa)).map λx=>D.bl (if neg then !x else x) else none)=_
  rw[if_pos a,hQ];rfl
 ·show (if D.depL (l.map Aa)<=30 then (B4 (Aa c) (l.map Aa)).map λx=>D.bl (if neg then !x else x) else none)=_
  rw[if_pos a,hQ];rfl
def hU{ts:List Tr}{m:Nat}{t:Tr}(h:ts[m]?=some t):Au (.tup (ts.map Tr.kind)) (.int m)=some t.kind:=(bF (bz t) 'o' (by rw[CH,AX,h];rfl)).2
def cS{ts:List Tr}{m:Nat}{t:Tr}(h:ts[m]?=some t):Au (.tup (ts.map Tr.place)) (.int m)=some t.place:=(bF (eg t) 'o' (by rw[CH,AX,h];rfl)).2
structure Cfg(wide high:Int)(sh:List Ae)(ts:List Tr):Prop where
 few:ts.length<=12
 sh:sh.length<=81
 wh:∀t∈ts,0<=t.w/\t.w<=9/\0<=t.h/\t.h<=9
instance dx(d:Int):Int:=if d=0 then 1 else if d=2 then -1 else 0
instance dy(d:Int):Int:=if d=1 then 1 else if d=3 then -1 else 0
instance Dir(d:Int):Prop:=0<=d/\d<4
def Dir.cases{d:Int}(h:Dir d):d=0\/d=1\/d=2\/d=3:=by obtain⟨b,a⟩:=h;omega
def Hv(ways:Str)(d:Int):Bool:=ways == "any"||ways == (if d % 2=0 then "row" else "column")
instance Tr.ahead(t:Tr)(d:Int):List Ae:=AA t.w t.h (t.x+dx d,t.y+dy d)
instance Tr.to(t:Tr)(d:Int):Tr:={ t with x:=t.x+dx d,y:=t.y+dy d }
instance okT(wide high:Int)(sh:List Ae)(t:Tr)(d:Int):Prop:=Hv t.ways d=true/\∀c∈t.ahead d,c∉sh/\0<=c.1/\c.1<wide/\0<=c.2/\c.2<high
def GD:List D->Ap Unit D:=Bj 6 2 yn1.1
def mc{w h:Int}{a:Str}{s:Int}(b:w<=30)(d:h<=30)(c:0<=w)(j:0<=h)(g:Q (.lst ((AA w h p).map Aa)) ()):Ab (GD [kd w h a s,Aa p]) Q E:=by
 refine aK rfl 'z' ?_;unfold yn1;dsimp only;simp_all!;simp! [Aa];simp_all!;simp! [bn];simp_all!;simp! [kd,Au,at0,at1];rw[ba 'o' c];refine aO (λi Z b=>∃x,Z=[.bor (kd w h a s),.bor (Aa p),.bor (.int p.1),.bor (.int p.2),.own (.lst (((List.range i).flatMap (Bl h p)).map Aa)),x]) 0 {_,rfl} (λi d Z b c f P l=>?_) λZ b f=>?_
 ·obtain⟨x,e⟩:=f
  obtain⟨rfl,b⟩:=bg c;subst e;have a:∀i:Nat,D.immL (((List.range i).flatMap (Bl h p)).map Aa)=true:=λi=>am ao _
  refine{_,rfl,?_};simp! [AF,a,kd,Au,at0,at1];rw[ba 'o' j];refine dm (λd=>match d with | .int j=>Aa (p.1+(i:Int),p.2+j) | _=>.non) (λZ=>∃x,Z=[x,.bor (.int p.1),.bor (.int (0+(i:Int))),.bor (.int p.2)]) {_,rfl} (λd c Z hI136=>?_) (aU (by rw[bq];omega)) ?_
  ·obtain⟨x,e⟩:=hI136
   subst e;obtain⟨j,m⟩:=List.getElem?_of_mem c;obtain⟨rfl,b⟩:=bg m;refine{_,rfl,{_,rfl},⟨rfl,rfl⟩,?_};simp! [Aa,AJ,AD,aW];simp
  ·have e:(Cq 0 h.toNat).map (λd=>match d with | .int j=>Aa (p.1+(i:Int),p.2+j) | _=>D.non)=(Bl h p i).map Aa:=by
    unfold Cq Bl;rw[Cf,Cf];refine FD λj _=>?_
    simp[Aa]
   rw[e];refine{_,ed (am ao _) ?_,l _ _ {.bor (.int (0+(i:Int))),?_}}
   ·rw[Ai,Ai,List.length_flatMap]
    unfold Bl;simp only[Ai,Fj,List.map_const',List.sum_replicate_nat];have:i*h.toNat<=29*30:=cQ 'o' 'o';omega
   ·rw[FJ,Fg,A7]
    simp[Aa,kd]
 ·obtain⟨x,e⟩:=f
  subst e;rw[bq,Aq];have a:∀i:Nat,D.immL (((List.range i).flatMap (Bl h p)).map Aa)=true:=λi=>am ao _
  simp! [a];exact g
def ek{α:Type}{P:List α->Prop}(nil:P [])(append_singleton:∀l a,P l->P (l++[a]))(l:List α):P l:=by
 have h:∀l:List α,P l.reverse:=λl=>by
  induction l with
  | nil=>exact nil
  | cons a l ih=>rw[List.reverse_cons];exact append_singleton _ _ ih
 have:=h l.reverse;rwa [List.reverse_reverse] at this
def BG(W:List (Ae×Int))(c:Ae):Option Int:=(W.reverse.find? λp=>decide (p.1=c)).map (·.2)
def uq:BG [] c=none:=rfl
def hV{v:Int}:BG (W++[(c0,v)]) c=if c0=c then some v else BG W c:=by
 unfold BG;rw[List.reverse_append];show ((((c0,v)::W.reverse).find? λp=>decide (p.1=c))).map (·.2)=_;rw[FL];by_cases h:c0=c
 ·simp[h]
 ·simp[h]
def ur(h:∀p∈W,p.1≠c):BG W c=none:=by
 unfold BG;rw[List.find?_eq_none.mpr (λp a=>by simpa using h p (List.mem_reverse.mp a))];rfl
def md{W V:List (Ae×Int)}{c:Ae}:BG (W++V) c=(BG V c).or (BG W c):=by
 unfold BG;rw[List.reverse_append,List.find?_append];cases V.reverse.find? (λp=>decide (p.1=c))<;>simp
def hW{l:List Ae}{c:Ae}{v:Int}:BG (l.map λq=>(q,v)) c=if c∈l then some v else none:=by
 induction l using ek with
 | nil=>rfl
 | append_singleton l a ih=>
   rw[A7];show BG ((l.map λq=>(q,v))++[(a,v)]) c=_;rw[hV,ih];by_cases h:a=c
   ·subst h;simp
   ·have h':c≠a:=λz=>h z.symm
    simp[h,h']
theorem me:∀{c f:List D},c.length=f.length->Ar k c (List.zipWith (λd u=>if AG d=some k' then v else u) c f)=if k=k' then (Ar k c f).map λ_=>v else Ar k c f
 | [],[],_=>by simp[Ar]
 | a::c,b::f,h=>by
   show Ar k (a::c) ((if AG a=some k' then v else b)::List.zipWith _ c f)=_;unfold Ar;by_cases e:AG a=some k
   ·rw[if_pos e,if_pos e,e]
    by_cases z:k=k'
    ·subst z;simp
    ·simp[z]
   ·rw[if_neg e,if_neg e];exact me (by simpa using h)
 | [],_::_,h=>by cases h
 | _::_,[],h=>by cases h
theorem mf:∀{d c:List D},d.length=c.length->Ar k (d++[AC k']) (c++[v])=(Ar k d c).or (if k'=k then some v else none)
 | [],[],_=>by
   show Ar k [AC k'] [v]=_;unfold Ar;rw[cH];by_cases e:k'=k
   ·simp[e,Ar]
   ·simp[e,Ar]
 | a::d,b::c,h=>by
   show Ar k (a::(d++[AC k'])) (b::(c++[v]))=_;unfold Ar;by_cases e:AG a=some k
   ·rw[if_pos e,if_pos e];rfl
   ·rw[if_neg e,if_neg e];exact mf (by simpa using h)
 | [],_::_,h=>by cases h
 | _::_,[],h=>by cases h
open H in
def ut(h:b.length=a.length):Ar k (AY k' v b a).1 (AY k' v b a).2=if k'=k then some v else Ar k b a:=by
 unfold AY;split
 ·rename_i c
  rw[me h];by_cases e:k'=k
  ·subst e
   obtain⟨d,f⟩:=Option.isSome_iff_exists.mp c;rw[f];simp
  ·have e':k≠k':=λz=>e z.symm
   simp[e,e']
 ·rename_i c
  rw[mf h];by_cases e:k'=k
  ·subst e
   have d:Ar k' b a=none:=by simpa using c
   rw[d];simp
  ·simp[e]
def CW(d:D)(W:List (Ae×Int)):Prop:=∃ks vs,d=.dct (.non::ks) vs/\D.immL vs=true/\ks.length=vs.length/\ks.length<=W.length/\∀c,Ar (ck c) ks vs=(BG W c).map D.int
def CW.nil:CW (.dct [.non] []) []:={[],[],rfl,rfl,rfl,Al _,λc=>by simp[Ar,uq]}
def CW.put{v:Int}(h:CW (.dct (.non::d) b) W):CW (.dct (.non::(AY (ck c0) (.int v) d b).1) (AY (ck c0) (.int v) d b).2) (W++[(c0,v)]):=by
 obtain⟨c,i,e,g,a,j,f⟩:=h;cases e;refine{_,_,rfl,gA ah g,(fj a).1,by have:=(fj (k:=ck c0) (v:=.int v) a).2;simp;omega,λc=>?_};rw[ut a,hV,f c];by_cases e:c0=c
 ·subst e;simp
 ·have e':ck c0≠ck c:=λz=>e (ej z)
  simp[e,e']
def CW.flat(h:CW d W):d.flat=true:=by
 obtain⟨c,b,rfl,a,_⟩:=h;exact a
instance wr(ts:List Tr):List (Ae×Int):=ts.zipIdx.flatMap λp=>p.1.cells.map λc=>(c,(p.2:Int))
def fx:wr (a++[u])=wr a++u.cells.map λc=>(c,(a.length:Int)):=by
 unfold wr;rw[List.zipIdx_append,Fg];simp
def BZ(sh:List Ae)(ts:List Tr):List (Ae×Int):=(sh.map λc=>(c,-1))++wr ts
def uu(h:∀t∈b,c∉t.cells):BG (wr b) c=none:=by
 apply ur;rintro ⟨q,v⟩ a;unfold wr at a;obtain⟨⟨t,i⟩,g,d⟩:=List.mem_flatMap.mp a;obtain⟨m,l,f⟩:=Cv.mp d;have j:t∈b:=(List.mem_zipIdx g).2.2▸List.getElem_mem _;intro e;cases f;exact h t j (by rw[<-show q=c from e];exact l)
def uv{m:Nat}(hm:ts[m]?=some t)(hc:c∈t.cells)(ap:ts.Pairwise λa b=>∀c∈a.cells,c∉b.cells):BG (wr ts) c=some (m:Int):=by
 induction ts using ek with
 | nil=>simp at hm
 | append_singleton ts u ih=>
   rw[fx,md,hW];obtain⟨a1,_,a3⟩:=Eh.mp ap;by_cases h:m<ts.length
   ·rw[List.getElem?_append_left h] at hm
    have hcu:c∉u.cells:=a3 t (Ct hm) u 'd' c hc;rw[if_neg hcu];simp only[FM];exact ih hm a1
   ·have hml:m=ts.length:=by
     have:=(Bd.mp hm).1;rw[A4] at this;simp at this;omega
    subst hml;rw[List.getElem?_append_right (Al _)] at hm;simp at hm;subst hm;rw[if_pos hc];rfl
def ER:List D->Ap Unit D:=Bj 7 2 (ym5 GD).1
def hX{b a:Int}:Au (Am b a c d) (.int 2)=some (.tup (c.map Aa)):=by
 show im (some (D.tup (c.map Aa)))=_;simp[im,ai,am ao c]
def hall3'{b a:Int}:Au (Am b a d c) (.int 3)=some (.tup (c.map Tr.kind)):=by
 show im (some (D.tup (c.map Tr.kind)))=_;simp[im,ai,am bz c]
def uw(h:∀t∈ts,t.cells.length<=81):(wr ts).length<=81*ts.length:=by
 induction ts using ek with
 | nil=>simp[wr]
 | append_singleton ts u ih=>
   rw[fx,A4,Ai,A4];have h1:=ih λt ht=>h t (by simp[ht])
   have h2:=h u 'd';simp only[B1,FK];omega
def fy{b f:Int}(y:Cfg b f h ts)(G:∀d,CW d (BZ h ts)->Q d ()):Ab (ER [Am b f h ts,AB ts]) Q E:=by
 refine aK rfl 'z' ?_;unfold ym5;dsimp only;have x:∀t∈ts,t.cells.length<=81:=λt z=>bO (y.wh t z).2.1 (y.wh t z).2.2.2
 have a:=y.few;have c:=y.sh;simp_all!;simp!;simp_all!;simp! [hX];refine aO (λi Z g=>∃(d:D) (n s u r:Sl),Z=[Sl.bor (Am b f h ts),.bor (AB ts),.own d,n,s,u,r]/\CW d ((h.take i).map λc=>(c,-1))) 0 {_,_,_,_,_,rfl,CW.nil} (λi e Z g l o P F=>?_) λZ g o=>?_
 ·obtain⟨d,n,s,u,r,m,a⟩:=o
  rw[AX] at l;cases q:h[i]? with
  | none=>rw[q] at l;cases l
  | some c=>
    rw[q] at l;cases l;subst m;rw[Aq] at a;obtain⟨A,E,rfl,C,J,B,I⟩:=id a;rw[Ai,B9] at B;refine{_,rfl,?_};simp! [BL,C,aR];refine{A,E,rfl,dZ 'o',F _ _ {_,_,_,_,_,rfl,?_}};rw[Aq];have:=a.put (c0:=c) (v:=-1);rwa [show (h.take i).map (λc=>(c,(-1:Int)))++[(c,-1)]=(h.take (i+1)).map λc=>(c,(-1:Int)) by rw[Cu,q,A7];rfl] at this
 ·obtain⟨d,n,s,u,r,m,a⟩:=o
  subst m;rw[Aq,Ai,Ck] at a;simp!;simp_all!;have j:Ha [.tup (ts.map Tr.kind)]=some (FS (ts.map Tr.kind)):=if_pos (am bz ts);simp! [hall3',j];refine aO (λi Z g=>∃(d:D) (n s u r:Sl),Z=[Sl.bor (Am b f h ts),.bor (AB ts),.own d,n,s,u,r]/\CW d (BZ h (ts.take i))) 0 {_,_,_,_,_,rfl,by unfold BZ wr;simpa using a} (λi e Z g l o P F=>?_) λZ g o=>?_
  ·obtain⟨d,n,s,u,r,m,a⟩:=o
   obtain⟨L,j,rfl⟩:=jW l;rw[AX] at j;cases q:ts[i]? with
   | none=>rw[q] at j;cases j
   | some t=>
     rw[q] at j;cases j;subst m;rw[Aq] at a;obtain⟨q1,q2,q3,j⟩:=y.wh t (Ct q);have j:i<ts.length:=(Bd.mp q).1;refine{_,rfl,?_};simp! [AB,cS q];refine mc (p:=(t.x,t.y)) 'o' 'o' q1 q3 ?_;have y:AA t.w t.h (t.x,t.y)=t.cells:=rfl;rw[y];simp!;refine aO (λj Z g=>∃(d:D) (n r:Sl),Z=[Sl.bor (Am b f h ts),.bor (AB ts),.own d,n,.bor (.int i),.bor t.kind,r]/\CW d (BZ h (ts.take i)++(t.cells.take j).map λc=>(c,(i:Int)))) 0 {_,_,_,rfl,by simpa using a} (λj e Z g l o P2 y=>?_) λZ g o=>?_
     ·obtain⟨d,n,r,m,a⟩:=o
      rw[AX] at l;cases q5:t.cells[j]? with
      | none=>rw[q5] at l;cases l
      | some c=>
        rw[q5] at l;cases l;subst m;rw[Aq] at a;obtain⟨A,E,rfl,C,J,B,I⟩:=id a;have e:=uw (ts:=ts.take i) λt z=>x t (List.mem_of_mem_take z)
        have g:=x t (Ct q);have g:A.length<=3000:=by
         unfold BZ at B;rw[A4,A4,Ai,Ai,B9] at B;rw[B9] at e;omega
        refine{_,rfl,?_};simp! [BL,C,aR];refine{A,E,rfl,dZ 'o',y _ _ {_,_,_,rfl,?_}};rw[Aq];have:=a.put (c0:=c) (v:=i);rwa [show BZ h (ts.take i)++(t.cells.take j).map (λc=>(c,(i:Int)))++[(c,(i:Int))]=BZ h (ts.take i)++(t.cells.take (j+1)).map λc=>(c,(i:Int)) by rw[Cu,q5,A7,Cd];rfl] at this
     ·obtain⟨d,n,r,m,a⟩:=o
      subst m;rw[Aq,Ai,Ck] at a;refine F _ _ {d,_,_,_,_,rfl,?_};rw[Aq];have e:BZ h (ts.take (i+1))=BZ h (ts.take i)++t.cells.map λc=>(c,(i:Int)):=by
       unfold BZ;rw[Cu,q];show _++wr (ts.take i++[t])=_;rw[fx,B9,DC 'o',Cd]
      rw[e];exact a
  ·obtain⟨d,n,s,u,r,m,a⟩:=o
   subst m;rw[Aq,jX,Ai,Ck] at a;simp! [a.flat];exact G d a
def IE:List D->Ap Unit D:=Bj 2 2 we6.1
def ux{a:Str}{d:Int}(e:Bo a)(c:Dir d)(b:Q (.bl (Hv a d)) ()):Ab (IE [.str a,.int d]) Q E:=by
 refine aK rfl 'z' ?_;unfold we6;dsimp only;have a:∀{d:Int},iOp (λ_ j=>0<j) (λi j=>D.int (i % j)) (.int d) (.int 2)=some (.int (d % 2)):=λ{d}=>gM (C:=λ_ j=>0<j) 'z'
 rw  [ax];simp! [cj,aS,a];rcases e with r | r | r | r<;>subst r
 ·rw  [ax]
  simp! [cj];exact b
 ·rcases c.cases with r | r | r | r<;>subst r<;>exact b
 ·rw  [ax]
  simp! [cj,aS,a];rcases c.cases with r | r | r | r<;>subst r<;>exact b
 ·rw  [ax]
  simp! [cj];rcases c.cases with r | r | r | r<;>subst r<;>exact b
def FB:List D->Ap Unit D:=Bj 4 2 zt6.1
def hZ{d:Int}(a:Dir d)(b:Q (Aa (p.1+dx d,p.2+dy d)) ()):Ab (FB [Aa p,.int d]) Q E:=by
 refine aK rfl 'z' ?_;unfold zt6;dsimp only;rw  [ax];simp!;rcases a.cases with r | r | r | r<;>subst r<;>refine{_,_,rfl,'z',rfl,?_}<;>simp?! [Aa,Au,pt0,pt1,AJ,AD,aW]<;>exact b
def FY(wide high:Int)(c:Ae):Bool:=(decide (0<=c.1)&&decide (c.1<wide))&&(decide (0<=c.2)&&decide (c.2<high))
def IF:List D->Ap Unit D:=Bj 3 3 ys1.1
def uy{w h:Int}(a:Q (.bl (FY w h c)) ()):Ab (IF [.int w,.int h,Aa c]) Q E:=by
 refine aK rfl 'z' ?_;unfold ys1;dsimp only;simp! [Aa,Au,pt0,pt1,AD];unfold FY at a;by_cases e:0<=c.1<;>by_cases b:c.1<w<;>by_cases f:0<=c.2<;>by_cases d:c.2<h<;>simp[e,b,f,d,aq] at a ⊢<;>exact a
def mh{w h:Int}:FY w h c=true↔0<=c.1/\c.1<w/\0<=c.2/\c.2<h:=by
 simp[FY];omega
def mi{n:Int}(d:∀c,Ar (ck c) a b=(BG W c).map D.int):E7 (.dct (.non::a) b) (Aa c) (.int n)=some (.int ((BG W c).getD n)):=by
 show im (some ((Ar (ck c) a b).getD (.int n)))=_;rw[d c];cases BG W c<;>rfl
def uz:BG (BZ a []) c=if c∈a then some (-1) else none:=by
 unfold BZ wr;simp only[List.zipIdx_nil,List.flatMap_nil,C8];exact hW
def IG:List D->Ap Unit D:=Bj 9 5 (yt8 IE GD FB IF).1
def uA{a b:Int}{d:Int}(g:0<=t.w/\t.w<=9/\0<=t.h/\t.h<=9)(e:Bo t.ways)(c:Dir d)(h:CW dd (BZ f []))(y:¬okT a b f t d->Q .non ())(C:okT a b f t d->Q (.lst []) ()):Ab (IG [Am a b f [t],AB [t],dd,.int 0,.int d]) Q E:=by
 refine aK rfl 'z' ?_;unfold yt8;dsimp only;obtain⟨n,o,rfl,i,l,j,E⟩:=h;obtain⟨q1,q2,q3,j⟩:=g;have i:∀t:Tr,Au t.kind (.int 2)=some (.str t.ways):=λt=>rfl
 have r:Au (Am a b f [t]) (.int 0)=some (.int a):=rfl;have z:Au (Am a b f [t]) (.int 1)=some (.int b):=rfl;have g:Au (.tup [t.kind]) (.int 0)=some t.kind:=hU (ts:=[t]) (m:=0) rfl;have h:Au (.tup [t.place]) (.int 0)=some t.place:=cS (ts:=[t]) (m:=0) rfl;have j:Au (Am a b f [t]) (.int 3)=some (.tup [t.kind]):=hall3';simp_all!;simp! [j,g];simp_all!;simp! [i];refine ux e c ?_;by_cases g:Hv t.ways d=true
 ·rw[g]
  simp!;simp_all!;simp! [bn];rw  [ax];have es:AB [t]=.tup [t.place]:=rfl;simp! [es,h];refine hZ (p:=(t.x,t.y)) c ?_;refine mc (p:=((t.x,t.y).1+dx d,(t.x,t.y).2+dy d)) 'o' 'o' q1 q3 ?_;have c:AA t.w t.h ((t.x,t.y).1+dx d,(t.x,t.y).2+dy d)=t.ahead d:=rfl;rw[c];simp!;refine hH (λi Z h=>∃(u x:Sl),Z=[Sl.bor (Am a b f [t]),.bor (.tup [t.place]),.bor (.dct (.non::n) o),.bor (.int 0),.bor (.int d),.bor t.kind,.own (.lst []),u,x]/\∀c∈(t.ahead d).take i,c∉f/\0<=c.1/\c.1<a/\0<=c.2/\c.2<b) 0 {_,_,rfl,λc j=>absurd j 'd'} (λi e Z h j v P B A=>?_) λZ h v=>?_
  ·obtain⟨u,x,s,l⟩:=v
   rw[AX] at j;cases q:(t.ahead d)[i]? with
   | none=>rw[q] at j;cases j
   | some c=>
     rw[q] at j;cases j;subst s;rw[Aq] at l B;have j:=Ct q;refine{_,rfl,?_};have e:E7 (.dct (.non::n) o) (Aa c) (.int 0)=some (.int ((BG (BZ f []) c).getD 0)):=mi E;rw[uz] at e;simp_all!;simp!;refine{n,o,rfl,?_};simp! [e];simp_all!;simp! [aS];by_cases i:c∈f
     ·rw[if_pos i]
      simp! [Option.getD_some,ce];exact A _ _ (y λo=>(o.2 c j).1 i)
     ·rw[if_neg i]
      have e:((Option.none:Option Int).getD 0 == -1)=false:=by decide
      rw[e];simp! [r,z];refine uy ?_;by_cases e:FY a b c=true
      ·rw[e]
       have r:=mh.mp e;have h:((Option.none:Option Int).getD 0 == 0)=true:=by decide
       simp! [aS,h];refine B _ _ {_,_,rfl,λz n=>?_};rw[Cu,q] at n;rcases Br.mp n with h | h
       ·exact l z h
       ·have h:z=c:=by simpa using h
        subst h;exact⟨i,r⟩
      ·have n:FY a b c=false:=by simpa using e
       rw[n];simp!;exact A _ _ (y λo=>e (mh.mpr (o.2 c j).2))
  ·obtain⟨u,x,s,l⟩:=v
   subst s;rw[Aq,Ai,Ck] at l;simp!;exact C ⟨g,l⟩
 ·have c:Hv t.ways d=false:=by simpa using g
  rw[c];simp!;exact y λo=>g o.1
instance Tr.put(t:Tr)(c:Ae):Tr:={ t with x:=c.1,y:=c.2 }
def Ca(c:Ae)(d:Int):Ae:=(c.1+dx d,c.2+dy d)
inductive DH(wide high:Int)(sh:List Ae)(t:Tr)(p:Ae):Ae->Prop where
 | self:DH wide high sh t p p
 | more {c:Ae} {d:Int}:DH wide high sh t p c->Dir d->okT wide high sh (t.put c) d->DH wide high sh t p (Ca c d)
def uB{i g:Int}{l:List Ae}{t:Tr}{c:Ae}{d:Int}(a:1<=t.w)(b:1<=t.h)(h:okT i g l (t.put c) d):Ca c d∈AA i g (0,0):=by
 have j:Ca c d∈(t.put c).ahead d:=bN.mpr {EW _,by show c.1+dx d<c.1+dx d+t.w;omega,EW _,by show c.2+dy d<c.2+dy d+t.h;omega};obtain⟨_,a,b,e,f⟩:=h.2 _ j;exact bN.mpr {a,by show (Ca c d).1<0+i;omega,e,by show (Ca c d).2<0+g;omega}
theorem DH.box{b a:Int}(c:1<=t.w)(e:1<=t.h)(h:DH b a f t p q):q∈p::AA b a (0,0):=by
 cases h with
 | self=>simp
 | more _ _ d=>exact DU _ (uB c e d)
theorem mj{α:Type}[DecidableEq α]:∀{l m:List α},l.Nodup->(∀x∈l,x∈m)->l.length<=m.length
 | [],_,_,_=>AR _
 | a::l,m,c,h=>by
   obtain⟨d,e⟩:=Dk.mp c;have b:a∈m:=h a 'd';have:=mj (l:=l) (m:=m.erase a) e λx c=>(List.mem_erase_of_ne (λ(e:x=a)=>d (by rw[<-e];exact c))).mpr (h x (by simp[c]))
   rw[List.length_erase_of_mem b] at this;have a:0<m.length:=List.length_pos_of_mem b;rw[B1];omega
def ie{b a:Int}{m:List Ae}{t:Tr}{p:Ae}{d:List Ae}(f:1<=t.w)(l:1<=t.h)(e:b<=9)(i:a<=9)(g:d.Nodup)(j:∀c∈d,DH b a m t p c):d.length<=82:=by
 have h:=mj g λc d=>(j c d).box f l
 rw[B1] at h;have:=bO (p:=(0,0)) e i;omega
def Hw(wide high:Int)(sh:List Ae)(t:Tr)(p:Ae)(Lv0:List Ae):Prop:=Lv0.Nodup/\Lv0.length<=82/\∀c,c∈Lv0↔DH wide high sh t p c
instance Cl(wide high:Int)(sh:List Ae)(t:Tr)(Lv0:List Ae)(c:Ae):Prop:=∀d,Dir d->okT wide high sh (t.put c) d->Ca c d∈Lv0
def Cl.mono{b a:Int}(h:Cl b a g t Lv0 c)(s:∀x∈Lv0,x∈M):Cl b a g t M c:=λd e f=>s _ (h d e f)
def uC{b a:Int}(i:Lv0.Nodup)(f:Lv0.length<=82)(e:p∈Lv0)(g:∀c∈Lv0,DH b a d t p c)(j:∀c∈Lv0,Cl b a d t Lv0 c):Hw b a d t p Lv0:=
 {i,f,λc=>{g c,λh=>by
  induction h with
  | self=>exact e
  | more _ c f g=>exact j _ g _ c f}}
instance tt(Lv0:List Ae):List D:=Lv0.map λ_=>D.bl true
abbrev BO(Lv0:List Ae):D:=.dct (.non::Lv0.map Aa) (tt Lv0)
def bZ(a:List Ae):D.immL (tt a)=true:=am (λ_=>aq) a
theorem fD:∀b:List Ae,Ar (ck c) (b.map Aa) (tt b)=if c∈b then some (.bl true) else none
 | []=>rfl
 | a::b=>by
   show Ar (ck c) (Aa a::b.map Aa) (.bl true::tt b)=_;unfold Ar;rw[aR,fD b];by_cases h:a=c
   ·subst h;simp
   ·have d:¬some (ck a)=some (ck c):=λz=>h (ej (Option.some.inj z))
    have b:c≠a:=λz=>h z.symm
    rw[if_neg d];simp[b]
def ml{neg:Bool}:Ds neg (Aa c) (BO Lv0)=some (.bl (if neg then !decide (c∈Lv0) else decide (c∈Lv0))):=by
 show (AG (Aa c)).map (λa=>D.bl (if neg then !(Ar a (Lv0.map Aa) (tt Lv0)).isSome else (Ar a (Lv0.map Aa) (tt Lv0)).isSome))=_;rw[aR];show some (D.bl (if neg then !(Ar (ck c) (Lv0.map Aa) (tt Lv0)).isSome else (Ar (ck c) (Lv0.map Aa) (tt Lv0)).isSome))=_;rw[fD];by_cases h:c∈Lv0<;>simp[h]
def fE(h:c∉Lv0):AY (ck c) (.bl true) (Lv0.map Aa) (tt Lv0)=((Lv0++[c]).map Aa,tt (Lv0++[c])):=by
 unfold AY;rw[fD,if_neg h];unfold tt;rw[A7,A7];rfl
def uE(h:W≠[]):∃(V:List Ae) (c:Ae),W=V++[c]:={W.dropLast,W.getLast h,(List.dropLast_concat_getLast h).symm}
def mm{V:List Ae}{c:Ae}:((V++[c]).map Aa).getLast?=some (Aa c)/\((V++[c]).map Aa).dropLast=V.map Aa:=by
 rw[A7];constructor
 ·exact List.getLast?_concat
 ·exact List.dropLast_concat
def dD{neg:Bool}(h:D.depL l<=29):BE neg (.lst l) (.lst [])=some (.bl (if neg then !decide (l=[]) else decide (l=[]))):=by
 unfold BE;have a:(D.lst l).dep<=30:=Em h;rw[if_pos a];cases neg<;>cases l<;>rfl
def ig(l:List Ae):D.depL (l.map Aa)<=29:=Aw (bM dC l) 'z'
def GE:List D->Ap Unit D:=Bj 1 1 zj9.1
def mo{b a:Int}(e:Q (Am b a c []) ()):Ab (GE [Am b a c d]) Q E:=by
 refine aK rfl 'z' ?_;unfold zj9;dsimp only;have h:Au (Am b a c d) (.int 0)=some (.int b):=rfl;have f:Au (Am b a c d) (.int 1)=some (.int a):=rfl;have i:A6 []=some (.tup []):=rfl;have g:A6 [.int b,.int a,.tup (c.map Aa),.tup []]=some (Am b a c []):=dj (by simp only[D.immL,ah,ai,am ao,C9]) 'd';simp! [h,f,hX,i,g];exact{.inl (by simp only[Am,ai,ah,D.immL,am ao,Da,C9]),e}
instance muA(Z:Ag):Nat:=match Z[5]? with
 | some (Sl.own (D.dct ks _))=>(match Z[6]? with
   | some (Sl.own (D.lst w))=>2*(90-ks.length)+w.length
   | _=>0)
 | _=>0
def IH:List D->Ap Unit D:=Bj 10 3 (zr2 ER GE FB IG).1
def uF{f g:Int}{m:List Ae}{C:List Tr}{t:Tr}{p:Ae}{Q:D->Unit->Prop}{E:AM->Unit->Prop}(c:1<=t.w/\t.w<=9/\1<=t.h/\t.h<=9)(Y:Bo t.ways)(R:f<=9)(O:g<=9)(b:m.length<=81)(n:∀i,Hw f g m t p i->Q (.lst ((AK i).map Cb)) ()):Ab (IH [Am f g m C,t.kind,Aa p]) Q E:=by
 refine aK rfl 'z' ?_;unfold zr2;dsimp only;obtain⟨Q,w9,T,h9⟩:=c;have a:Au (Am f g m C) (.int 0)=some (.int f):=rfl;have c:Au (Am f g m C) (.int 1)=some (.int g):=rfl;have h:A6 []=some (.tup []):=rfl;have e:A6 [t.kind]=some (.tup [t.kind]):=rfl;have d:D.immL (m.map Aa)=true:=am ao m;have l:A6 [.int f,.int g,.tup (m.map Aa),.tup [t.kind]]=some (Am f g m [t]):=dj (by simp only[D.immL,ai,ah,d,bz,C9]) 'd';have es:D.tup []=AB []:=rfl;have j:(Am f g m [t]).flat=false:=rfl;have o:Cfg f g m []:={'d',b,λt d=>nomatch d};simp_all!;simp! [a,c,hX,e,l,j];simp_all!;simp!;with_reducible refine mo ?_
 simp! [h];rewrite [es];refine fy o λB x=>?_
 have a:=x.flat;simp! [a];simp_all!;simp! [sM];refine{ck p,aR p,?_};have a:D.dct [.non,AC (ck p)] [.bl true]=BO [p]:=rfl;have b:∀i,(BO i).flat=true:=λi=>bZ i
 have c:B6 [Aa p]=some (.lst ([p].map Aa)):=rfl;have d:∀l:List Ae,(D.lst (l.map Aa)).flat=true:=λl=>am ao l
 rewrite [a];simp! [b];simp_all!;simp! [c,d];simp_all!;refine l7 (λZ v=>∃(i W:List Ae) (j s r:Sl),Z=[Sl.bor (Am f g m C),.bor t.kind,.bor (Aa p),.bor (Am f g m [t]),.own B,.own (BO i),.own (.lst (W.map Aa)),j,s,r]/\i.Nodup/\p∈i/\(∀c∈i,DH f g m t p c)/\(∀c∈W,c∈i)/\(∀c∈i,c∈W\/Cl f g m t i c)/\W.length<=i.length) (λZ _=>muA Z)
  {[p],[p],_,_,_,rfl,'d','d',λc a=>by rw[A8.mp a];exact .self,λc a=>a,λc a=>.inl a,Al _} ?_
 rintro Z v ⟨i,W,j,s,r,rfl,l,y,o,u,d,b⟩ P e pn h A;have q:=ie Q T R O l o;have h:B6 []=some (.lst []):=rfl;simp! [h,dD (ig W)];by_cases e:W=[]
 ·have h:decide (W.map Aa=[])=true:=by simp[e]
  rw[h];simp!;refine A _ ?_;subst e;have z:Hw f g m t p i:=uC l q y o λc a=>(d c a).resolve_left 'd'
  have q:Hm [BO i]=some (.lst ((AK i).map Cb)):=by
   show ((CF (i.map Cb)).bind λa=>if a.length<128 then some (D.lst ((AK a).map Cb)) else none)=_;rw[ft,EE,if_pos 'o']
  simp! [q];exact{.inr (fu _),n i z}
 ·have h:decide (W.map Aa=[])=false:=by simp[e]
  rw[h];simp!;obtain⟨V,c,rfl⟩:=uE e;have a:c∈i:=u c 'd';simp_all!;simp only[sK];have e:AF [Sl.bor (Am f g m C),.bor t.kind,.bor (Aa p),.bor (Am f g m [t]),.own B,.own (BO i),.own (.lst ((V++[c]).map Aa)),j,s,r] 6=some ((V++[c]).map Aa):=by
   show (if D.immL ((V++[c]).map Aa)=true then some ((V++[c]).map Aa) else none)=_;rw[if_pos (am ao _)]
  refine{_,_,_,e,mm.1,rfl,?_};simp! [mm.2];rw[ba 'z' 'z'];refine aO (λj Z v=>∃(M U:List Ae) (s r:Sl),Z=[Sl.bor (Am f g m C),.bor t.kind,.bor (Aa p),.bor (Am f g m [t]),.own B,.own (BO M),.own (.lst (U.map Aa)),.bor (Aa c),s,r]/\M.Nodup/\p∈M/\(∀c∈M,DH f g m t p c)/\(∀c∈U,c∈M)/\c∈M/\(∀q∈M,q=c\/q∈U\/Cl f g m t M q)/\(∀k:Nat,k<j->okT f g m (t.put c) (k:Int)->Ca c (k:Int)∈M)/\2*(90-M.length)+U.length<=2*(90-i.length)+V.length/\U.length<=M.length) 0
   {i,V,_,_,rfl,l,y,o,λq n=>u q (by simp[n]),a,λq n=>by
    rcases d q n with h | h
    ·rcases Br.mp h with h | h
     ·exact .inr (.inl h)
     ·exact .inl (A8.mp h)
    ·exact .inr (.inr h),λk N=>absurd N (Nat.not_lt_zero _),Al _,by rw[A4] at b;simp only[B1,FK] at b;omega} (λj e Z v F W P2 b=>?_) λZ v W=>?_
  ·obtain⟨M,U,s,r,J,o,A,l,y,z,d,u,G,E⟩:=W
   obtain⟨rfl,a⟩:=bg F;have I:j<4:=a;subst J;rw[Aq] at b u;rw[Int.zero_add];have F:Dir (j:Int):={'o','o'};have P:=ie Q T R O o l;refine{_,rfl,?_};simp_all!;simp!;with_reducible refine hZ (p:=c) F ?_
   have a:(c.1+dx (j:Int),c.2+dy (j:Int))=Ca c (j:Int):=rfl;rewrite [a];have I:∀q:Ae,(Aa q).flat=false:=λ_=>rfl
   simp! [I,ml];have a:(Ca c (j:Int)∈M\/¬okT f g m (t.put c) (j:Int))->∀s r,P2 (.nx [Sl.bor (Am f g m C),.bor t.kind,.bor (Aa p),.bor (Am f g m [t]),.own B,.own (BO M),.own (.lst (U.map Aa)),.bor (Aa c),s,r]) v:=λh s r=>b _ _ {M,U,s,r,rfl,o,A,l,y,z,d,λk N B=>by
    by_cases e:k=j
    ·subst e
     rcases h with h | h
     ·exact h
     ·exact absurd B h
    ·exact u k 'o' B,G,E}
   by_cases v:Ca c (j:Int)∈M
   ·simp! [aV v]
    exact a (.inl v) _ _
   ·have L:A6 [Aa c]=some (AB [t.put c]):=rfl
    have I:Am f g m [t]=Am f g m [t.put c]:=rfl;simp! [aI v,L];rewrite [I];refine uA (t:=t.put c) {by show 0<=t.w;omega,w9,by show 0<=t.h;omega,h9} Y F x (λL=>?_) λB=>?_
    ·have x:Fv true .non .non=some (.bl false):=rfl
     simp! [x];exact a (.inr L) _ _
    ·have a:Fv true (.lst []) .non=some (.bl true):=rfl
     simp! [a];simp_all!;simp! [BL,bZ];refine{_,_,rfl,ck (Ca c (j:Int)),aR _,dZ (by rw[Ai];omega),?_};rewrite [fE v];simp! [AF,am ao];refine{_,bV (ao _) ?_,b _ _ {M++[Ca c (j:Int)],U++[Ca c (j:Int)],.bor (.int (j:Int)),.bor (Aa (Ca c (j:Int))),?_,?_,by simp[A],λq n=>?_,λq n=>?_,by simp[z],λq n=>?_,λk N L=>?_,?_,?_}}
     ·rw[Ai];omega
     ·rw[<-I];simp only[BO,A7,Be,Da]
     ·exact El.mpr {o,'d',λa I b x=>by rw[A8.mp x];intro e;exact v (e▸I)}
     ·rcases Br.mp n with h | h
      ·exact l q h
      ·rw[A8.mp h];exact(l c z).more F B
     ·rcases Br.mp n with h | h
      ·exact Ei _ (y q h)
      ·exact Dw _ h
     ·rcases Br.mp n with h | h
      ·rcases d q h with e | e | e
       ·exact .inl e
       ·exact .inr (.inl (Ei _ e))
       ·exact .inr (.inr (e.mono λx v=>Ei _ v))
      ·exact .inr (.inl (Dw _ h))
     ·by_cases e:k=j
      ·subst e;simp
      ·exact Ei _ (u k 'o' L)
     ·rw[A4,A4]
      simp only[B1,FK];omega
     ·rw[A4,A4];omega
  ·obtain⟨M,U,s,r,J,o,A,l,y,z,d,u,G,E⟩:=W
   subst J;refine pn _ _ {M,U,_,_,_,rfl,o,A,l,y,λq n=>?_,E} ?_
   ·rcases d q n with e | e | e
    ·subst e
     refine .inr λd F B=>?_
     have e:d=((d.toNat:Nat):Int):=by obtain⟨a,b⟩:=F;omega
     rw[e] at B ⊢;exact u d.toNat (by obtain⟨a,b⟩:=F;show d.toNat<0+4;omega) B
    ·exact .inl e
    ·exact .inr e
   ·show 2*(90-(D.non::M.map Aa).length)+(U.map Aa).length<2*(90-(D.non::i.map Aa).length)+((V++[c]).map Aa).length
    have P:=ie Q T R O o l;rw[B1,B1,Ai,Ai,Ai,Ai,A4];simp only[B1,FK];omega
def Hx(wide high:Int)(sh:List Ae)(t:Tr)(p m:Ae):Prop:=DH wide high sh t p m/\∀c,DH wide high sh t p c->Ts.lxle m c
open Classical in
def ES(wide high:Int)(sh:List Ae)(t:Tr):Ae:=if h:∃m,Hx wide high sh t (t.x,t.y) m then choose h else (0,0)
def uG{b a:Int}(h:Hx b a e t (t.x,t.y) m):ES b a e t=m:=by
 have c:∃m,Hx b a e t (t.x,t.y) m:=⟨m,h⟩;have d:=Classical.choose_spec c;unfold ES;rw[dif_pos c];exact lK (d.2 m h.1) (h.2 _ d.1)
def uH{d b:Int}(h:Hw d b f t (t.x,t.y) Lv0):(AK Lv0).head?=some (ES d b f t):=by
 obtain⟨c,_,g⟩:=h;have a:(t.x,t.y)∈Lv0:=(g _).mpr .self;cases q:AK Lv0 with
 | nil=>
   have:=(bx Lv0).length_eq;rw[q] at this;exact absurd (List.length_pos_of_mem a) (by rw[<-this];simp)
 | cons a l=>
   have e:=g8 Lv0;rw[q] at e;obtain⟨j,_⟩:=FE.mp e;have h:∀c,c∈a::l↔DH d b f t (t.x,t.y) c:=λc=>by rw[<-q,(bx Lv0).mem_iff];exact g c
   have i:Hx d b f t (t.x,t.y) a:={(h a).mp 'd',λc g=>by
    rcases AL.mp ((h c).mpr g) with e | e
    ·subst e;unfold Ts.lxle;omega
    ·exact j c e}
   rw[uG i];rfl
structure Hy(wide high:Int)(sh:List Ae)(ts:List Tr):Prop where
 few:ts.length<=12
 w:wide<=9
 h:high<=9
 sh:sh.length<=81
 wh:∀t∈ts,1<=t.w/\t.w<=9/\1<=t.h/\t.h<=9
 ways:∀t∈ts,Bo t.ways
def Dg(wide high:Int)(sh:List Ae)(ts:List Tr):List D:=ts.map λt=>Aa (ES wide high sh t)
def eo{b a:Int}:D.immL (Dg b a d c)=true:=am (λ_=>ao _) c
def uI{b a:Int}{d:List Ae}{c:List Tr}{i:Nat}{t:Tr}(h:c[i]?=some t):Dg b a d (c.take (i+1))=Dg b a d (c.take i)++[Aa (ES b a d t)]:=by
 unfold Dg;rw[Cu,h,A7];rfl
def uJ(h:D.immL l=true):BK [.lst l]=some (.tup l):=if_pos h
def GF:List D->Ap Unit D:=Bj 2 2 (xf6 IH).1
def ij{a b:Int}{f:List Ae}{c:List Tr}{Q:D->Unit->Prop}{E:AM->Unit->Prop}(g:Hy a b f c)(m:Q (.tup (Dg a b f c)) ()):Ab (GF [Am a b f c,AB c]) Q E:=by
 refine aK rfl 'z' ?_;unfold xf6;dsimp only;have d:=g.few;have h:Ha [.tup (c.map Tr.kind)]=some (FS (c.map Tr.kind)):=if_pos (am bz c);simp! [hall3',h];refine di (λn e Z h=>e=Dg a b f (c.take n)/\∃x y,Z=[x,y,Sl.bor (Am a b f c),.bor (AB c)]) 0 {rfl,_,_,rfl} (λi d e Z h l j=>?_) λe Z h j=>?_
 ·obtain⟨d,x,y,h⟩:=j
  obtain⟨n,e,rfl⟩:=jW l;rw[AX] at e;cases q:c[i]? with
  | none=>rw[q] at e;cases e
  | some t=>
    rw[q] at e;cases e;subst h;rw[Aq] at d ⊢;have e:i<c.length:=(Bd.mp q).1;refine{_,rfl,?_};have e:Au (AB c) (.int (i:Int))=some t.place:=cS q;simp! [e];refine uF (p:=(t.x,t.y)) (g.wh t (Ct q)) (g.ways t (Ct q)) g.w g.h g.sh λe h=>?_
    have g:=uH h;have i:Au (.lst ((AK e).map Cb)) (.int 0)=some (Aa (ES a b f t)):=(bF (ao _) 'z' (by
     show ((AK e).map Cb)[0]?=_;rw[AX,<-List.head?_eq_getElem?,g];rfl)).1
    simp! [i];refine{ao _,?_,?_,_,_,rfl}
    ·rw[d];unfold Dg;rw[Ai,B9];exact lt_size 'o'
    ·rw[d,uI q]
 ·obtain⟨d,_⟩:=j
  have e:(FS (c.map Tr.kind)).length=c.length:=by rw[jX,Ai]
  rw[e,Aq,Ck] at d;subst d;simp! [uJ eo];exact{.inl eo,m}
def Dh(sh:List Ae)(ts:List Tr):List Ae:=sh++ts.flatMap Tr.cells
instance freeC(wide high:Int)(sh:List Ae)(ts:List Tr):List Ae:=(AA wide high (0,0)).filter λc=>!decide (c∈Dh sh ts)
def uK:∀W:List (Ae×Int),(BG W c).isSome=decide (c∈W.map (·.1)):=by
 intro W;induction W using ek with
 | nil=>rfl
 | append_singleton W p ih=>
   obtain⟨q,v⟩:=p;rw[hV,A7];by_cases h:q=c
   ·subst h;simp
   ·have h':c≠q:=λz=>h z.symm
    rw[if_neg h,ih];simp[h']
def uL(ts:List Tr):(wr ts).map (·.1)=ts.flatMap Tr.cells:=by
 induction ts using ek with
 | nil=>rfl
 | append_singleton ts u ih=>
   rw[fx,A7,ih,Fg,Cf];simp[Function.comp_def]
def uM(b:List Ae)(a:List Tr):(BZ b a).map (·.1)=Dh b a:=by
 unfold BZ Dh;rw[A7,uL,Cf];simp[Function.comp_def]
def uN(h:CW d (BZ g e))(c:Ae):Ds true (Aa c) d=some (.bl (!decide (c∈Dh g e))):=by
 obtain⟨b,a,rfl,_,_,_,f⟩:=h;show (AG (Aa c)).map (λd=>D.bl (!(Ar d b a).isSome))=_;rw[aR];show some (D.bl (!(Ar (ck c) b a).isSome))=_;rw[f c,Option.isSome_map,uK,uM]
def cc{S α:Type}{E:AM->S->Prop}{Z:Ag}{e:S}{Q:List D->S->Prop}{g:BD}{t:AV S}{f:Fn S}{xs:List α}{a y:α->D}{p:α->Bool}(R:Ag->Prop)(m:R Z)(s:∀x∈xs,∀Z,R Z->∃h,g (a x) Z=some h/\R h/\Ab (t h e) (λb j=>b=p x/\j=e) E/\(p x=true->Ab (f h e) (λd l=>d=y x/\d.imm=true/\l=e) E))(c:xs.length<=sizeLine)(o:Q ((xs.filter p).map y) e):Ab (DM S g t f (xs.map a) [] Z e) Q E:=by
 refine di (λn a g c=>a=((xs.take n).filter p).map y/\R g/\c=e) 0 {'d',m,rfl} (λi d a g c f hI138=>?_) λa g c hI137=>?_
 ·obtain⟨a,r,m⟩:=hI138
  subst m;rw[AX] at f;cases q:xs[i]? with
  | none=>rw[q] at f;cases f
  | some x=>
    rw[q] at f;cases f;have c:i<xs.length:=(Bd.mp q).1;obtain⟨h,q1,r1,q2,q3⟩:=s x (Ct q) g r;rw[Aq] at a ⊢;have f:xs.take (i+1)=xs.take i++[x]:=by rw[Cu,q];rfl
    refine{h,q1,ak q2 (λb j hI139=>?_) λx s z=>z};obtain⟨c,es⟩:=hI139;subst es;cases b:p x with
    | true=>
      rw[b] at c;rw[c,if_pos rfl];refine ak (q3 b) (λd l hI140=>?_) λx s z=>z
      obtain⟨d,im,es⟩:=hI140;refine{im,?_,?_,r1,es}
      ·rw[a,Ai]
       have:=Fd p (xs.take i);rw[B9] at this;omega
      ·rw[f,List.filter_append,A7,a,d]
       simp[b]
    | false=>
      rw[b] at c;rw[c,if_neg BQ];refine{?_,r1,rfl};rw[f,List.filter_append,a];simp[b]
 ·obtain⟨a,r,m⟩:=hI137
  rw[Aq,Ai,Ck] at a;subst a m;exact o
def GG:List D->Ap Unit D:=Bj 5 2 (zx2 ER).1
def mq{f b:Int}{g:List Ae}{ts:List Tr}{Q:D->Unit->Prop}{E:AM->Unit->Prop}(h:Cfg f b g ts)(e:0<=f/\f<=9)(q:0<=b/\b<=9)(r:Q (.lst ((freeC f b g ts).map Aa)) ()):Ab (GG [Am f b g ts,AB ts]) Q E:=by
 refine aK rfl 'z' ?_;unfold zx2;dsimp only;simp_all!;simp!;refine fy h λd n=>?_
 have c:=n.flat;simp! [c];simp_all!;simp! [bn];simp_all!;have c:Au (Am f b g ts) (.int 0)=some (.int f):=rfl;have j:Au (Am f b g ts) (.int 1)=some (.int b):=rfl;simp! [c];rw[ba 'o' e.1];refine aO (λi Z h=>∃x,Z=[Sl.bor (Am f b g ts),.bor (AB ts),.own d,.own (.lst (((List.range i).flatMap λk=>(Bl b (0,0) k).filter λc=>!decide (c∈Dh g ts)).map Aa)),x]) 0 {_,rfl} (λi e Z h u o P s=>?_) λZ h o=>?_
 ·obtain⟨x,m⟩:=o
  obtain⟨rfl,l⟩:=bg u;subst m;have h:∀l:List Ae,D.immL (l.map Aa)=true:=λl=>am ao l
  refine{_,rfl,?_};simp! [AF,h,j];rw[ba 'o' q.1];have u:Cq 0 b.toNat=(List.range b.toNat).map λ(j:Nat)=>D.int (0+(j:Int)):=rfl
  rw[u];have q:∀j:Nat,A6 [.int (0+(i:Int)),.int (0+(j:Int))]=some (Aa ((0:Int)+(i:Int),(0:Int)+(j:Int))):=λj=>rfl
  refine cc (a:=λ(j:Nat)=>D.int (0+(j:Int))) (y:=λ(j:Nat)=>Aa ((0:Int)+(i:Int),(0:Int)+(j:Int))) (p:=λ(j:Nat)=>!decide ((((0:Int)+(i:Int),(0:Int)+(j:Int)):Ae)∈Dh g ts)) (λZ=>∃x,Z=[x,Sl.bor (.int (0+(i:Int))),.bor d]) {_,rfl} (λj u Z hI141=>?_) (aU (by rw[Fj];omega)) ?_
  ·obtain⟨x,m⟩:=hI141
   subst m;refine{_,rfl,{_,rfl},?_,λ_=>?_}
   ·simp! [q,uN n]
   ·simp! [q,ao]
  ·have m:((List.range b.toNat).filter λ(j:Nat)=>!decide ((((0:Int)+(i:Int),(0:Int)+(j:Int)):Ae)∈Dh g ts)).map (λ(j:Nat)=>Aa ((0:Int)+(i:Int),(0:Int)+(j:Int)))=((Bl b (0,0) i).filter λc=>!decide (c∈Dh g ts)).map Aa:=by
    unfold Bl;rw[List.filter_map,Cf];rfl
   rw[m];refine{_,ed (h _) ?_,s _ _ {.bor (.int (0+(i:Int))),?_}}
   ·rw[Ai,Ai]
    have d:∀k,((Bl b (0,0) k).filter λc=>!decide (c∈Dh g ts)).length<=9:=λk=>by
     refine Aw (Fd _ _) ?_;unfold Bl;rw[Ai,Fj];omega
    have j:((List.range (0+i)).flatMap λk=>(Bl b (0,0) k).filter λc=>!decide (c∈Dh g ts)).length<=9*(0+i):=by
     generalize 0+i=n;induction n with
     | zero=>simp
     | succ n q=>
       rw[FJ,Fg,A4];have:=d n;simp only[List.flatMap_cons,List.flatMap_nil,C8];omega
    have:=d i;rw[Aq] at j;omega
   ·rw[Aq,FJ,Fg,A7]
    simp
 ·obtain⟨x,m⟩:=o
  subst m;rw[bq,Aq];have h:∀l:List Ae,D.immL (l.map Aa)=true:=λl=>am ao l
  have e:freeC f b g ts=(List.range f.toNat).flatMap λk=>(Bl b (0,0) k).filter λc=>!decide (c∈Dh g ts):=by
   unfold freeC AA;rw[List.filter_flatMap]
  rw[<-e];simp! [h];exact r
def ET(t:Tr):Bool:=t.w == 1&&t.h == 1
def AS(ts:List Tr):Bool:=ts.all ET
def GH:List D->Ap Unit D:=Bj 1 1 (yf0 GG GE).1
def mr{b a:Int}(h:d.length<=81)(e:0<=b/\b<=9)(g:0<=a/\a<=9)(i:Q (.lst ((freeC b a d []).map Aa)) ()):Ab (GH [Am b a d ts]) Q E:=by
 refine aK rfl 'z' ?_;unfold yf0;dsimp only;have f:A6 []=some (.tup []):=rfl;have c:∀l:List Ae,D.immL (l.map Aa)=true:=λl=>am ao l
 simp!;refine mo ?_;simp! [f];refine mq (ts:=[]) {'d',h,λt f=>absurd f 'd'} e g ?_;simp! [c];exact i
def uO{w h:Int}:BE false (.tup [.int w,.int h]) (.tup [.int 1,.int 1])=some (.bl (w == 1&&h == 1)):=by
 show (if (D.tup [.int w,.int h]).dep<=30 then (D.eqq (.tup [.int w,.int h]) (.tup [.int 1,.int 1])).map (λx=>D.bl (if false=true then !x else x)) else none)=_;rw[if_pos (by show 1<=30;decide)];have e:D.eqq (.tup [.int w,.int h]) (.tup [.int 1,.int 1])=some (w == 1&&h == 1):=by
  show (D.eqq (.int w) (.int 1)).bind (λx=>(D.eqL [.int h] [.int 1]).map λy=>x&&y)=_;rw[bW];show ((D.eqq (.int h) (.int 1)).bind (λx=>(D.eqL [] []).map λy=>x&&y)).map (λy=>(w == 1)&&y)=_;rw[bW];show some ((w == 1)&&((h == 1)&&true))=_;rw[Bool.and_true]
 rw[e];rfl
def uP(h:D.immL [a,b,c,d]=true):Ez none (some 2) (.tup [a,b,c,d])=some (.tup [a,b]):=by
 show (if D.immL [a,b,c,d]=true/\¬(HT.sIx 4 0 none=0/\HT.sIx 4 4 (some ((2:Nat):Int))=4) then some (D.tup (L2.cutD [a,b,c,d] none (some ((2:Nat):Int)))) else none)=_;rw[if_pos {h,λz=>by have:=z.2;rw[HT.sIx_nat] at this;omega},kO];rfl
def JL:D->D
 | .tup [.int w,.int h,_,_]=>.bl (w == 1&&h == 1)
 | _=>.non
def uQ(a:List Tr):(a.map Tr.kind).map JL=a.map λt=>.bl (ET t):=by rw[Cf];rfl
def GI:List D->Ap Unit D:=Bj 1 1 zn7.1
def ms{b a:Int}(d:c.length<=12)(f:Q (.bl (AS c)) ()):Ab (GI [Am b a i c]) Q E:=by
 refine aK rfl 'z' ?_;unfold zn7;dsimp only;have d:A6 [.int 1,.int 1]=some (.tup [.int 1,.int 1]):=rfl;simp! [hall3'];refine dm JL (λZ=>∃x,Z=[x]) {_,rfl} (λe g Z hI142=>?_) (aU (by rw[Ai];omega)) ?_
 ·obtain⟨x,e⟩:=hI142
  subst e;obtain⟨t,h,rfl⟩:=Cv.mp g;have e:Ez none (some 2) t.kind=some (.tup [.int t.w,.int t.h]):=uP rfl;refine{_,rfl,{_,rfl},⟨rfl,rfl⟩,?_};simp! [e,d,uO];rfl
 ·rw[uQ]
  simp! [Gp,fg,Option.map_some];have d:(c.map λt=>ET t).all id=AS c:=by rw[List.all_map];rfl
  rw[d];exact f
instance pl(ts:List Tr):List Ae:=ts.map λt=>(t.x,t.y)
def eu(a:List Tr):AB a=.tup ((pl a).map Aa):=by unfold AB pl;rw[Cf];rfl
def fF{w h:Int}(a:w<=30)(c:h<=30)(b:0<=w)(g:0<=h)(l:Q (.lst ((AA w h p).map Aa)) ()):Ab (DQ [.tup [.int w,.int h],Aa p]) Q E:=by
 refine aK rfl 'z' ?_;unfold zm4;dsimp only;simp?! [ax,bn,Au,pt0,pt1];rw[ba 'o' b];refine aO (λi Z a=>∃x,Z=[.bor (.tup [.int w,.int h]),.bor (Aa p),.own (.lst (((List.range i).flatMap (Bl h p)).map Aa)),x]) 0 {_,rfl} (λi d Z a b c P f=>?_) λZ a c=>?_
 ·obtain⟨x,e⟩:=c
  obtain⟨rfl,j⟩:=bg b;subst e;have a:∀i:Nat,D.immL (((List.range i).flatMap (Bl h p)).map Aa)=true:=λi=>am ao _
  refine{_,rfl,?_};simp?! [ax,AF,a,Au,pt0,pt1];rw[ba 'o' g];refine dm (λd=>match d with | .int j=>Aa (p.1+(i:Int),p.2+j) | _=>.non) (λZ=>∃x,Z=[x,.bor (.int (0+(i:Int))),.bor (Aa p)]) {_,rfl} (λd b Z hI143=>?_) (aU (by rw[bq];omega)) ?_
  ·obtain⟨x,e⟩:=hI143
   subst e;obtain⟨j,m⟩:=List.getElem?_of_mem b;obtain⟨rfl,g⟩:=bg m;refine{_,rfl,{_,rfl},⟨rfl,rfl⟩,?_};simp?! [ax,Aa,Au,pt0,pt1,AJ,AD,aW];simp
  ·have e:(Cq 0 h.toNat).map (λd=>match d with | .int j=>Aa (p.1+(i:Int),p.2+j) | _=>D.non)=(Bl h p i).map Aa:=by
    unfold Cq Bl;rw[Cf,Cf];refine FD λj _=>?_
    simp[Aa]
   rw[e];refine{_,ed (am ao _) ?_,f _ _ {.bor (.int (0+(i:Int))),?_}}
   ·rw[Ai,Ai,List.length_flatMap]
    unfold Bl;simp only[Ai,Fj,List.map_const',List.sum_replicate_nat];have:i*h.toNat<=29*30:=cQ 'o' 'o';omega
   ·rw[FJ,Fg,A7]
    simp
 ·obtain⟨x,e⟩:=c
  subst e;rw[bq,Aq];have a:∀i:Nat,D.immL (((List.range i).flatMap (Bl h p)).map Aa)=true:=λi=>am ao _
  simp?! [ax,a];exact l
def fG{b a:Int}:freeC b a d []=(AA b a (0,0)).filter λc=>!decide (c∈d):=by
 unfold freeC Dh;simp
def cu(h:ET t=true):t.cells=[(t.x,t.y)]:=by
 unfold ET at h;have a:t.w=1/\t.h=1:=by simpa using h
 unfold Tr.cells AA Bl;rw[a.1,a.2];simp
def bP(h:AS a=true)(b:t∈a):ET t=true:=by
 unfold AS at h;exact FI.mp h t b
def uS(h:AS a=true):Dh e a=e++pl a:=by
 unfold Dh pl;congr 1;induction a with
 | nil=>rfl
 | cons t a b=>
   have c:AS a=true:=FI.mpr λu d=>bP h (DU _ d)
   rw[List.flatMap_cons,b c,cu (bP h C6)];rfl
def ik{w h:Int}:(AA w h p).Nodup:=by
 unfold AA;rw[List.Nodup,List.pairwise_flatMap];refine{λi _=>?_,List.pairwise_lt_range.imp λ{a b} c x f y d e=>?_}
 ·unfold Bl
  rw[F9];exact List.pairwise_lt_range.imp λ{a b} c e=>by
   have:=congrArg Prod.snd e;simp only at this;omega
 ·unfold Bl at f d
  obtain⟨j,_,rfl⟩:=Cv.mp f;obtain⟨k,_,rfl⟩:=Cv.mp d;have:=congrArg Prod.fst e;simp only at this;omega
def fH{b a:Int}(c:b<=9)(d:a<=9):(freeC b a sh ts).length<=81:=Aw (Fd _ _) (bO c d)
def fJ{b a:Int}:(freeC b a d c).Nodup:=ik.filter _
def ip{b a:Int}:c∈freeC b a d []↔(0<=c.1/\c.1<b/\0<=c.2/\c.2<a)/\c∉d:=by
 rw[fG,C7,bN];simp
def fK:D.eqq (Aa a) (Aa c)=some (decide (a=c)):=by
 show (D.eqq (.int a.1) (.int c.1)).bind (λx=>(D.eqL [.int a.2] [.int c.2]).map λy=>x&&y)=_;rw[bW];show ((D.eqq (.int a.2) (.int c.2)).bind (λx=>(D.eqL [] []).map λy=>x&&y)).map (λy=>(a.1 == c.1)&&y)=_;rw[bW];show some ((a.1 == c.1)&&((a.2 == c.2)&&true))=_;rw[Option.some.injEq,Fo];simp[Prod.ext_iff]
def Cr(c:Ae):List Ae->Nat
 | []=>0
 | a::l=>if a=c then 0 else Cr c l+1
theorem mu:∀{l:List Ae},c∈l->DP (Aa c) (l.map Aa)=some (Cr c l)
 | a::l,h=>by
   rw[Be];unfold DP Cr;rw[fK];by_cases e:a=c
   ·simp[e]
   ·have a:c∈l:=by
     rcases AL.mp h with h | h
     ·exact absurd h.symm e
     ·exact h
    simp[e,mu a]
instance GP(wide high:Int)(sh ps:List Ae):Prop:=ps.Nodup/\∀c∈ps,c∈freeC wide high sh []
structure HC(wide high:Int)(sh:List Ae)(ts:List Tr):Prop where
 w1:1<=wide
 w9:wide<=9
 h1:1<=high
 h9:high<=9
 sc:Hy wide high sh ts
 one:AS ts=true->GP wide high sh (pl ts)
def Hy.cfg{b a:Int}{e:List Ae}{d:List Tr}(h:Hy b a e d):Cfg b a e d:={h.few,h.sh,λt c=>{Int.le_of_lt (h.wh t c).1,(h.wh t c).2.1,Int.le_of_lt (h.wh t c).2.2.1,(h.wh t c).2.2.2}}
theorem iq{α:Type}:∀{l:List α} {k:Nat} {c:α},l[k]?=some c->l.Perm (c::l.eraseIdx k)
 | a::l,0,c,h=>by cases h;exact List.Perm.refl _
 | a::l,k+1,c,h=>(List.Perm.cons a (iq (l:=l) (k:=k) h)).trans (List.Perm.swap c a _)
 | [],_,_,h=>by simp at h
def mw{P l:List Ae}{k:Nat}{c:Ae}(h:l[k]?=some c)(a:(P++l).Nodup):((P++[c])++l.eraseIdx k).Nodup:=by
 rw[Cd];exact(List.Perm.nodup_iff (List.Perm.append_left P (iq h))).mp a
def mx{P l:List Ae}{k:Nat}{c x:Ae}(h:l[k]?=some c)(a:x∈(P++[c])++l.eraseIdx k):x∈P++l:=by
 rw[Cd] at a;exact(List.Perm.append_left P (iq h)).mem_iff.mpr a
def my{l:List Ae}{k:Nat}:(l.map Aa).eraseIdx k=(l.eraseIdx k).map Aa:=by
 induction l generalizing k with
 | nil=>rfl
 | cons a l b=>cases k with
   | zero=>rfl
   | succ k=>simp[b]
def mz{l:List Ae}{v:Int}(d:0<=v)(b:v<(l.length:Nat))(a:l.length<=100):∃(k:Nat) (c:Ae),l[k]?=some c/\E9 (l.map Aa) [.int v]=some (Aa c,(l.eraseIdx k).map Aa):=by
 have a:v.toNat<l.length:=by omega
 refine{v.toNat,l[v.toNat],Ba a,?_};rw[s6 (x:=Aa l[v.toNat]) d (by rw[Ai];exact b) (by rw[Ai];omega) (by rw[AX,Ba a];rfl),my]
def uT{v:Int}(c:0<=v)(b:v<5):∃s:Str,Au (.lst [.str "any",.str "any",.str "any",.str "row",.str "none"]) (.int v)=some (.str s)/\Bo s:=by
 obtain⟨d,a,e⟩:=cK (l:=[.str "any",.str "any",.str "any",.str "row",.str "none"]) rfl c (by simpa using b);rw[e];simp only[AL,BW,or_false] at a;rcases a with r | r | r | r | r<;>subst r<;>exact{_,rfl,by simp[Bo]}
def uU{v:Int}(c:0<=v)(b:v<6):∃s:Str,Au (.lst [.str "any",.str "any",.str "any",.str "row",.str "column",.str "none"]) (.int v)=some (.str s)/\Bo s:=by
 obtain⟨d,a,e⟩:=cK (l:=[.str "any",.str "any",.str "any",.str "row",.str "column",.str "none"]) rfl c (by simpa using b);rw[e];simp only[AL,BW,or_false] at a;rcases a with r | r | r | r | r | r<;>subst r<;>exact{_,rfl,by simp[Bo]}
def mB{v:Int}(c:0<=v)(b:v<5):∃s:Int,Au (.lst [.int 0,.int 1,.int 0,.int 1,.int (-1)]) (.int v)=some (.int s):=by
 obtain⟨d,a,e⟩:=cK (l:=[.int 0,.int 1,.int 0,.int 1,.int (-1)]) rfl c (by simpa using b);rw[e];simp only[AL,BW,or_false] at a;rcases a with r | r | r | r | r<;>subst r<;>exact{_,rfl}
def ir(f:D.immL a=true)(d:D.immL b=true)(h:a.length+b.length<=1000):AJ (.tup a) (.tup b)=some (.tup (a++b)):=by
 have c:AD (λi j=>D.int (i+j)) (.tup a) (.tup b)=none:=rfl;have e:Gu (.tup a) (.tup b)=none:=rfl;unfold AJ;rw[c,e];cases a with
 | nil=>
   have c:Gv (.tup []) (.tup b)=none:=if_neg (λz=>by cases z.2.2.2);have e:Hc (.tup []) (.tup b)=some (.tup b):=if_pos d;rw[c,e];rfl
 | cons x a=>
   have c:Gv (.tup (x::a)) (.tup b)=some (.tup (x::a++b)):=if_pos {f,d,aU h,rfl};rw[c];rfl
def uV{c:Ae}{l:List Ae}(h:c∈l):Hs (l.map Aa) [Aa c]=some ((l.eraseIdx (Cr c l)).map Aa):=by
 rw[tm (n:=Cr c l) (Aw (bM dC l) 'z') (λe b=>by obtain⟨a,_,rfl⟩:=Cv.mp b;exact{_,fK}) (mu h),my]
structure SG(T:List Ae)(ts:List Tr)(left:List Ae):Prop where
 sub:∀c∈pl ts++left,c∈T
 nd:(pl ts++left).Nodup
 ll:left.length<=100
 wh:∀t∈ts,(1<=t.w/\t.w<=2/\t.h=1)/\Bo t.ways
def SG.hc{e d:Int}(h:SG T i left)(m:∀c∈T,c∈freeC e d g [])(f:1<=e)(j:e<=9)(n:1<=d)(b:d<=9)(l:g.length<=81)(a:i.length<=12):HC e d g i:=
 {f,j,n,b,{a,j,b,l,λt f=>by obtain⟨⟨a,b,c⟩,_⟩:=h.wh t f;omega,λt f=>(h.wh t f).2},λ_=>{(El.mp h.nd).1,λc a=>m c (h.sub c (Ei _ a))}}
def SG.snoc{k:Nat}{w:Int}{a:Str}{s:Int}(h:SG T b left)(f:left[k]?=some c)(d:left'.Sublist (left.eraseIdx k))(e:w=1\/w=2)(i:Bo a):SG T (b++[{w,1,a,s,c.1,c.2}]) left':=by
 have g:=d.length_le;rw[List.length_eraseIdx] at g;have e:pl (b++[⟨w,1,a,s,c.1,c.2⟩])=pl b++[c]:=by unfold pl;rw[A7];rfl
 refine{λx a=>?_,?_,by have:=h.ll;split at g<;>omega,λt c=>?_}
 ·rw[e] at a
  exact h.sub x (mx f ((List.Sublist.append_left d _).subset a))
 ·rw[e]
  exact List.Sublist.nodup (List.Sublist.append_left d _) (mw f h.nd)
 ·rcases Br.mp c with a | a
  ·exact h.wh t a
  ·rw[A8.mp a];exact{{by show 1<=w;omega,by show w<=2;omega,rfl},i}
def cT{b a:Int}:(Am b a d c).imm=true:=by
 simp only[Am,ai,D.immL,ah,am ao,am bz,C9]
def cU:(AB a).imm=true:=by unfold AB;rw[ai];exact am eg _
def mC{b:List Ae}{a:List Tr}:D.immL [.tup (b.map Aa),.tup (a.map Tr.kind)]=true:=by
 simp only[D.immL,ai,am ao,am bz,C9]
def uW{b a:Int}:(D.tup [Am b a d c,AB c]).imm=true:=by
 simp only[ai,D.immL,cT,cU,C9]
def II:List D->Dr->Ap Dr D:=CU 13 4 (zk8 DQ By).1
def uX{w h j:Int}{T:List Ae}{R:Dr}{Q:D->Dr->Prop}{E:AM->Dr->Prop}(C:T.Nodup)(i:∀c∈T,c∈AA w h (0,0))(s:T.length<=100)(e:0<=j)(d:j<=12)(w1:1<=w)(w9:w<=9)(h1:1<=h)(h9:h<=9)(d:R.2<2 ^ 38)(hq:∀m f n,HC w h m f->n.2<=R.2+100->Q (.tup [Am w h m f,AB f]) n):Ab (II [.tup [.int w,.int h],.lst (T.map Aa),.int j] R) Q E:=by
 refine bU rfl 'z' ?_;unfold zk8;dsimp only;have o:∀l:List Ae,D.immL (l.map Aa)=true:=λl=>am ao l
 have v:∀l:List Tr,D.immL (l.map Tr.kind)=true:=λl=>am bz l
 have B:∀l:List Tr,D.immL (l.map Tr.place)=true:=λl=>am eg l
 have d:A6 [.int 0,.int 0]=some (Aa (0,0)):=rfl;have l:A6 [.int 1,.int 1]=some (.tup [.int 1,.int 1]):=rfl;have N:A6 [.int 2,.int 1]=some (.tup [.int 2,.int 1]):=rfl;have e:(AA w h (0,0)).length<=81:=bO w9 h9;simp_all!;simp! [d];refine fF 'o' 'o' 'o' 'o' ?_;simp!;refine cc (xs:=AA w h (0,0)) (a:=Aa) (y:=Aa) (p:=λc=>!decide (c∈T)) (λZ=>∃z,Z=[z,Sl.bor (.lst (T.map Aa))]) {_,rfl} (λc d Z hI144=>?_) (aU 'o') ?_
 ·obtain⟨z,u⟩:=hI144
  subst u;refine{_,rfl,{_,rfl},?_,λ_=>?_}
  ·simp! [hT]
  ·simp! [ao]
 generalize d:(AA w h (0,0)).filter (λc=>!decide (c∈T))=m;have I:∀c∈T,c∈freeC w h m []:=λc g=>by
  rw[fG,C7];exact{i c g,by rw[<-d];simp[g]}
 have Q:m.length<=81:=by rw[<-d];exact Aw (Fd _ _) e
 simp! [o];simp_all!;simp! [FT,o];simp_all!;simp! [bn];simp_all!;simp! [bn];simp_all!;have i:BF [.lst (T.map Aa)]=some (.int (T.length:Nat)):=by simp[BF]
 have mn:=cr (a:=j) (b:=(T.length:Nat));have d:0<=CV j (T.length:Nat):=by rcases mn.2.2 with e | e<;>rw[e]<;>omega
 simp! [i,cR,AJ,AD];refine ar 'o' 'o' 'o' λe d r i q=>?_
 simp!;rw[ba 'o' 'o'];refine aO (λi Z n=>∃(left:List Ae) (f:List Tr) (L J x r q:Sl),Z=[Sl.hnd,.bor (.tup [.int w,.int h]),.bor (.lst (T.map Aa)),.bor (.int j),.own (.lst (m.map Aa)),.own (.lst (left.map Aa)),.own (.lst (f.map Tr.kind)),.own (.lst (f.map Tr.place)),L,J,x,r,q]/\SG T f left/\f.length<=i/\n.2<=d.2+5*i) 0 {T,[],.no,.no,.no,.no,.no,rfl,{λc g=>g,C,s,λt A=>absurd A 'd'},Al 0,'o'} (λi d Z n e F P Y=>?_) λZ n F=>?_
 ·obtain⟨left,f,L,J,x,r,q,u,z,P,A⟩:=F
  obtain⟨rfl,d⟩:=bg e;subst u;rw[Aq] at A P;have d:=z.ll;refine{_,rfl,?_};simp! [bn,dD (ig left)];by_cases d:left=[]
  ·have e:decide (left.map Aa=[])=true:=by simp[d]
   rw[e];simp!;exact Y _ _ {left,f,_,_,_,_,_,rfl,z,'o','o'}
  ·have e:decide (left.map Aa=[])=false:=by simp[d]
   have pos:0<left.length:=List.length_pos_iff.mpr d;have g:BF [.lst (left.map Aa)]=some (.int (left.length:Nat)):=by simp[BF]
   rw[e];simp!;simp_all!;simp! [s8,AF,o,g];refine ar 'o' 'o' 'o' λC s e g d=>?_
   obtain⟨k,c,hk,d⟩:=mz e g z.ll;simp!;refine{_,d,?_};have e:(left.eraseIdx k).length<=100:=by rw[List.length_eraseIdx];split<;>omega
   have c0:Au (Aa c) (.int 0)=some (.int c.1):=rfl;have E:Au (Aa c) (.int 1)=some (.int c.2):=rfl;have G:∀a b:Int,A6 [.int a,.int b]=some (Aa (a,b)):=λa b=>rfl
   simp!;simp_all!;simp! [l];refine br (λZ (n:Dr)=>∃(d:List Ae) (w':Int),Z=[Sl.hnd,.bor (.tup [.int w,.int h]),.bor (.lst (T.map Aa)),.bor (.int j),.own (.lst (m.map Aa)),.own (.lst (d.map Aa)),.own (.lst (f.map Tr.kind)),.own (.lst (f.map Tr.place)),.bor (.int (0+(i:Int))),.bor (Aa c),.bor (.tup [.int w',.int 1]),r,q]/\d.Sublist (left.eraseIdx k)/\(w'=1\/w'=2)/\n.2<=s.2+1) (λP2 C=>?_) λZ e F=>?_
   ·have l:∀e:Dr,e.2<=s.2+1->P2 (.nx [Sl.hnd,.bor (.tup [.int w,.int h]),.bor (.lst (T.map Aa)),.bor (.int j),.own (.lst (m.map Aa)),.own (.lst ((left.eraseIdx k).map Aa)),.own (.lst (f.map Tr.kind)),.own (.lst (f.map Tr.place)),.bor (.int (0+(i:Int))),.bor (Aa c),.bor (.tup [.int 1,.int 1]),r,q]) e:=λe g=>C _ _ {_,1,rfl,List.Sublist.refl _,.inl rfl,g}
    simp! [aS];by_cases W:(0+(i:Int))=0
    ·have U:((0+(i:Int)) == 0)=true:=by rw[W];rfl
     rw[U];simp! [c0,E,AJ,AD,G,hT];by_cases g:((c.1+1,c.2):Ae)∈left.eraseIdx k
     ·rw[aV g]
      simp!;refine ar 'z' 'z' 'o' λM e a3 O Z=>?_
      simp! [aS];by_cases Z:M=0
      ·have O:(M == 0)=true:=by rw[Z];rfl
       rw[O];simp!;simp_all!;simp! [s5,AF,o,c0,E,AJ,AD,G];refine{_,uV g,?_};simp! [N];exact C _ _ {_,2,rfl,GU _ _,.inr rfl,'o'}
      ·have O:(M == 0)=false:=beq_eq_false_iff_ne.mpr Z
       rw[O];simp!;exact l e 'o'
     ·rw[aI g]
      simp!;exact l s 'o'
    ·have U:((0+(i:Int)) == 0)=false:=beq_eq_false_iff_ne.mpr W
     rw[U];simp!;exact l s 'o'
   ·obtain⟨d,w',u,l,G,e⟩:=F
    subst u;simp_all!;simp!;refine ar 'z' 'z' 'o' λW e a4 b4 g=>?_
    simp!;refine ar 'z' 'z' 'o' λZ e O E s=>?_
    obtain⟨g,C,N⟩:=uT a4 b4;obtain⟨e,s⟩:=mB O E;simp!;simp_all!;have M:B6 [.str "any",.str "any",.str "any",.str "row",.str "none"]=some (.lst [.str "any",.str "any",.str "any",.str "row",.str "none"]):=rfl;have U:B6 [.int 0,.int 1,.int 0,.int 1,.int (-1)]=some (.lst [.int 0,.int 1,.int 0,.int 1,.int (-1)]):=rfl;have O:AJ (.tup [.int w',.int 1]) (.tup [.str g,.int e])=some (kd w' 1 g e):=ir rfl rfl 'd';simp! [M,C,AF,v];have E:A6 [.str g,.int e]=some (.tup [.str g,.int e]):=rfl;simp! [U,s,E,O];refine{_,bV hM (by rw[Ai];omega),?_};simp! [AF,B];refine{_,bV (ao c) (by rw[Ai];omega),?_};refine Y _ _ {d,f++[{w',1,g,e,c.1,c.2}],.bor (.int (0+(i:Int))),.bor (Aa c),.bor (.tup [.int w',.int 1]),.bor (.int W),.bor (.int Z),?_,z.snoc hk l G N,by rw[A4];simp;omega,'o'};rw[A7,A7];rfl
 ·obtain⟨left,f,L,J,x,r,q,u,z,P,A⟩:=F
  subst u;rw[bq,Aq] at P A;have c:CV j (T.length:Nat)<=12:=by have:=mn.1;omega
  have i:BK [.lst (m.map Aa)]=some (.tup (m.map Aa)):=by simp[BK,o]
  have g:BK [.lst (f.map Tr.kind)]=some (.tup (f.map Tr.kind)):=by simp[BK,v]
  have e:BK [.lst (f.map Tr.place)]=some (.tup (f.map Tr.place)):=by simp[BK,B]
  have l:A6 [.tup (m.map Aa),.tup (f.map Tr.kind)]=some (.tup [.tup (m.map Aa),.tup (f.map Tr.kind)]):=aW (by rw[ai];exact o m) (by rw[ai];exact v f);have o:AJ (.tup [.int w,.int h]) (.tup [.tup (m.map Aa),.tup (f.map Tr.kind)])=some (Am w h m f):=ir rfl mC 'd';have c:(Am w h m f).imm=true:=cT;have d:(AB f).imm=true:=cU;have j:A6 [Am w h m f,.tup (f.map Tr.place)]=some (.tup [Am w h m f,AB f]):=aW c d;simp! [i,g,e,l,o,j,c,d];exact hq m f n (z.hc I w1 w9 h1 h9 Q 'o') 'o'
def uY(h:c∈Lv0):AY (ck c) (.bl true) (Lv0.map Aa) (tt Lv0)=(Lv0.map Aa,tt Lv0):=by
 unfold AY;rw[fD,if_pos h];have e:∀M:List Ae,List.zipWith (λd u=>if AG d=some (ck c) then D.bl true else u) (M.map Aa) (tt M)=tt M:=λM=>by
  induction M with
  | nil=>rfl
  | cons a M b=>
    show (if AG (Aa a)=some (ck c) then D.bl true else D.bl true)::List.zipWith (λd u=>if AG d=some (ck c) then D.bl true else u) (M.map Aa) (tt M)=D.bl true::tt M;rw[b];split<;>rfl
 rw[e];rfl
def Ea(c:Ae)(Lv0:List Ae):List Ae:=if c∈Lv0 then Lv0 else Lv0++[c]
def mD:AY (ck c) (.bl true) (Lv0.map Aa) (tt Lv0)=((Ea c Lv0).map Aa,tt (Ea c Lv0)):=by
 unfold Ea;by_cases h:c∈Lv0
 ·rw[if_pos h,uY h]
 ·rw[if_neg h,fE h]
open H in
def uZ(h:Lv0.Nodup):(Ea c Lv0).Nodup:=by
 unfold Ea;split
 ·exact h
 ·rename_i f
  exact El.mpr {h,'d',λa c b d e=>f (by rw[<-A8.mp d,<-e];exact c)}
def u0:(Ea c Lv0).length<=Lv0.length+1:=by
 unfold Ea;split
 ·omega
 ·rw[A4];simp
def u3:c∈Ea c Lv0:=by
 unfold Ea;split
 ·assumption
 ·simp
theorem iw:∀{b:List Ae},c∈b->Fa (ck c) (b.map Aa) (tt b)=some ((b.eraseIdx (Cr c b)).map Aa,tt (b.eraseIdx (Cr c b)))
 | a::b,h=>by
   show (if AG (Aa a)=some (ck c) then some (b.map Aa,tt b) else (Fa (ck c) (b.map Aa) (tt b)).map λp=>(Aa a::p.1,D.bl true::p.2))=_;unfold Cr;rw[aR];by_cases e:a=c
   ·subst e
    rw[if_pos rfl,if_pos rfl];rfl
   ·have a:c∈b:=by
     rcases AL.mp h with h | h
     ·exact absurd h.symm e
     ·exact h
    rw[if_neg (λz=>e (ej (Option.some.inj z))),if_neg e,iw a];rfl
def mE(h:Lv0.length<128):Hm [BO Lv0]=some (.lst ((AK Lv0).map Aa)):=by
 have e:Lv0.map Aa=Lv0.map Cb:=FD λc _=>rfl
 have b:(AK Lv0).map Aa=(AK Lv0).map Cb:=FD λc _=>rfl
 show (CF (Lv0.map Aa)).bind (λa=>if a.length<128 then some (D.lst ((AK a).map Cb)) else none)=_;rw[e,ft,b];exact if_pos h
def u4(h:Lv0.length<=1000):Iu [BO Lv0]=some (.int (Lv0.length:Nat)):=by
 show (if (Lv0.map Aa).length<=1000 then some (D.int (Lv0.map Aa).length) else none)=_;rw[Ai,if_pos h]
def u5{a p q:Int}:oIn false (.int a) (.tup [.int p,.int q])=some (.bl (p == a||q == a)):=by
 show (if D.depL [.int p,.int q]<=30 then (B4 (.int a) [.int p,.int q]).map λx=>D.bl (if false=true then !x else x) else none)=_;rw[if_pos (by show 0<=30;decide)];show ((D.eqq (.int p) (.int a)).bind λb=>((D.eqq (.int q) (.int a)).bind λb=>(B4 (.int a) []).map λx=>b||x).map λx=>b||x).map _=_;rw[bW,bW];show some (D.bl (p == a||(q == a||false)))=_;rw[Bool.or_false]
def BU(x y wide high:Int)(c:Ae):Bool:=(x == c.1||x+wide-1 == c.1)||(y == c.2||y+high-1 == c.2)
theorem cV:∀{l m:List Ae},l.Nodup->(∀x∈l,x∈m)->l.length<=m.length
 | [],_,_,_=>AR _
 | a::l,m,c,e=>by
   have d:=List.perm_cons_erase (e a C6);have b:=Dk.mp c;have:=cV (l:=l) (m:=m.erase a) b.2 λx c=>by
    rcases AL.mp (d.mem_iff.mp (e x (DU _ c))) with z | z
    ·exact absurd (z▸c) b.1
    ·exact z
   rw[d.length_eq];exact Em this
def u6{x y w h:Int}(a:AA w h (x,y)=C)(b:C.Nodup)(c:w<=9)(d:h<=7):(C.filter (BU x y w h)).length<=32:=by
 subst a;refine Aw (cV (m:=(AA w 1 (x,y)++AA w 1 (x,y+h-1))++(AA 1 h (x,y)++AA 1 h (x+w-1,y))) (b.filter _) λc f=>?_) (by rw[A4,A4,A4,cq,cq,cq,cq];simp only[Int.toNat_one,Nat.mul_one,Nat.one_mul];omega);obtain⟨d,a⟩:=C7.mp f;obtain⟨b,c,e,a4⟩:=bN.mp d;simp only[BU,Bool.or_eq_true,beq_iff_eq] at a;simp only[Br,bN];dsimp only at b c e a4 ⊢;omega
structure Rg(G Lv0:List Ae)(n:Nat):Prop where
 sub:∀c∈Lv0,c∈G
 nd:Lv0.Nodup
 ln:Lv0.length<=n
def Rg.add{n:Nat}(h:Rg G Lv0 n)(b:c∈G):Rg G (Ea c Lv0) (n+1):={λx a=>by
 unfold Ea at a;split at a
 ·exact h.sub x a
 ·rcases Br.mp a with z | z
  ·exact h.sub x z
  ·rw[A8.mp z];exact b,uZ h.nd,Aw u0 (F7 h.ln 1)}
def Rg.pop{n k:Nat}(h:Rg G Lv0 n):Rg G (Lv0.eraseIdx k) n:={λx a=>h.sub x ((GU _ _).subset a),(GU _ _).nodup h.nd,Aw (GU _ _).length_le h.ln}
def Rg.sort{n:Nat}(h:Rg G Lv0 n):(AK Lv0).Nodup/\(AK Lv0).length<=n/\∀c∈AK Lv0,c∈G:={(List.Perm.nodup_iff (bx Lv0)).mpr h.nd,by rw[(bx Lv0).length_eq];exact h.ln,λc a=>h.sub c ((bx Lv0).mem_iff.mp a)}
def IJ:List D->Dr->Ap Dr D:=CU 13 2 (zn8 By DQ II).1
def u7{st:Dr}{Q:D->Dr->Prop}{E:AM->Dr->Prop}(hs:st.2<2 ^ 37)(hq:∀w h sh U j,HC w h sh U->j.2<=st.2+120->Q (.tup [Am w h sh U,AB U]) j):Ab (IJ [.bl false] st) Q E:=by
 refine bU rfl 'z' ?_;unfold zn8;dsimp only;have him:∀l:List Ae,D.immL (l.map Aa)=true:=λl=>am ao l
 have e00:A6 [.int 0,.int 0]=some (Aa (0,0)):=rfl;have e22:A6 [.int 2,.int 2]=some (.tup [.int 2,.int 2]):=rfl;have ep:∀a b:Int,A6 [.int a,.int b]=some (.tup [.int a,.int b]):=λa b=>rfl
 have cd2:∀a b:Int,D.tup [.int a,.int b]=Aa (a,b):=λa b=>rfl
 simp_all!;simp!;refine ar 'z' 'z' 'o' λv1 st1 a1 b1 c1=>?_
 simp! [AJ,AD];refine ar 'z' 'z' 'o' λv2 st2 a2 b2 c2=>?_
 simp! [AJ,AD];simp_all!;simp!;refine br (λZ (j:Dr)=>∃(w h:Int),Z=[Sl.hnd,.bor (.bl false),.bor (.int w),.bor (.int h),.no,.no,.no,.no,.no,.no,.no,.no,.no]/\2<=w/\w<=9/\2<=h/\h<=7/\j.2<=st2.2+1) (λP2 o=>?_) λZ st3 u=>?_
 ·simp!
  refine ar 'z' 'z' 'o' λv3 st3 a3 b3 c3=>?_
  simp! [aS];by_cases L:v3=0
  ·have A:(v3 == 0)=true:=by rw[L];rfl
   rw[A];simp! [e22];exact o _ _ {2,2,rfl,'z','z','z','z','o'}
  ·have A:(v3 == 0)=false:=beq_eq_false_iff_ne.mpr L
   rw[A];simp!;exact o _ _ {_,_,rfl,'o','o','o','o','o'}
 ·obtain⟨w,h,r,w2,w9,h2,h7,t3⟩:=u
  subst r;simp_all!;simp! [AD];refine ar 'o' 'o' 'o' λx st4 a4 b4 c4=>?_
  simp! [AD];refine ar 'o' 'o' 'o' λy st5 a5 b5 c5=>?_
  simp!;simp_all!;simp!;have C63:(AA w h (x,y)).length<=63:=by rw[cq];exact cQ (c:=9) (d:=7) 'o' 'o'
  have Y:(AA w h (x,y)).Nodup:=ik;generalize hC:AA w h (x,y)=C at *;refine br (λZ (j:Dr)=>∃J:Sl,Z=[Sl.hnd,.bor (.bl false),.bor (.int w),.bor (.int h),.bor (.int x),.bor (.int y),.own (BO (C.filter (BU x y w h))),J,.no,.no,.no,.no,.no]/\j=st5) (λP2 o=>?_) λZ M u=>?_
  ·simp! [ep]
   rw[cd2 x y];refine fF 'o' 'o' 'o' 'o' ?_;rw[hC];simp!;refine aO (λi Z j=>∃J:Sl,Z=[Sl.hnd,.bor (.bl false),.bor (.int w),.bor (.int h),.bor (.int x),.bor (.int y),.own (BO ((C.take i).filter (BU x y w h))),J,.no,.no,.no,.no,.no]/\j=st5) 0 {.no,rfl,rfl} (λi d Z j B u P pn=>?_) λZ j u=>?_
   ·obtain⟨J,r,e5⟩:=u
    rw[AX] at B;cases q:C[i]? with
    | none=>rw[q] at B;cases B
    | some c=>
      rw[q] at B;cases B;subst r e5;have hi:i<C.length:=(Bd.mp q).1;have c0:Au (Aa c) (.int 0)=some (.int c.1):=rfl;have c1':Au (Aa c) (.int 1)=some (.int c.2):=rfl;have et:C.take (i+1)=C.take i++[c]:=by rw[Cu,q];rfl
      have hnc:c∉C.take i:=λz=>by
       have h1:=(List.take_sublist (i+1) C).nodup Y;rw[et] at h1;exact(El.mp h1).2.2 c z c 'd' rfl
      refine{_,rfl,?_};simp! [c0,c1',AJ,AD,ep,u5];have done:∀b,BU x y w h c=b->(b=true->P (.nx [Sl.hnd,.bor (.bl false),.bor (.int w),.bor (.int h),.bor (.int x),.bor (.int y),.own (BO ((C.take i).filter (BU x y w h)++[c])),.bor (Aa c),.no,.no,.no,.no,.no]) j)/\(b=false->P (.nx [Sl.hnd,.bor (.bl false),.bor (.int w),.bor (.int h),.bor (.int x),.bor (.int y),.own (BO ((C.take i).filter (BU x y w h))),.bor (Aa c),.no,.no,.no,.no,.no]) j):=λb R=>by
       constructor<;>intro hbb<;>refine pn _ _ {.bor (Aa c),?_,rfl}<;>rw[Aq,et,List.filter_append]
       ·simp[R,hbb]
       ·simp[R,hbb]
      have fl63:((C.take i).filter (BU x y w h)).length<=63:=Aw (Fd _ _) (by rw[B9];omega);have hnl:c∉(C.take i).filter (BU x y w h):=λz=>hnc (C7.mp z).1
      have kp2:=fE hnl;generalize hL:(C.take i).filter (BU x y w h)=f at *;by_cases b1:(x == c.1||x+w-1 == c.1)=true
      ·have R:BU x y w h c=true:=by unfold BU;rw[b1];rfl
       rw[if_pos b1];refine{f.map Aa,tt f,by simp?! [BL,bZ],_,aR c,lt_size (by rw[Ai];omega),?_};rw[kp2];exact(done true R).1 rfl
      ·rw[if_neg b1]
       by_cases b2:(y == c.2||y+h-1 == c.2)=true
       ·have R:BU x y w h c=true:=by unfold BU;rw[b2,Bool.or_true]
        rw[if_pos b2];refine{f.map Aa,tt f,by simp?! [BL,bZ],_,aR c,lt_size (by rw[Ai];omega),?_};rw[kp2];exact(done true R).1 rfl
       ·have R:BU x y w h c=false:=by
         unfold BU;rw[Bool.eq_false_iff.mpr b1,Bool.eq_false_iff.mpr b2];rfl
        rw[if_neg b2];exact(done false R).2 rfl
   ·obtain⟨J,r,e5⟩:=u
    subst r e5;rw[Ai,Aq,Ck];exact o _ _ {_,rfl,rfl}
  ·obtain⟨J,r,e5⟩:=u
   subst r e5;have rg:Rg C (C.filter (BU x y w h)) 32:={λc F=>(C7.mp F).1,Y.filter _,u6 hC Y w9 h7};have c00:(x,y)∈C.filter (BU x y w h):=C7.mpr {by rw[<-hC];exact bN.mpr {EW _,by show x<x+w;omega,EW _,by show y<y+h;omega},by simp[BU]};refine br (λZ (j:Dr)=>∃(f:List Ae) (O:Sl),Z=[Sl.hnd,.bor (.bl false),.bor (.int w),.bor (.int h),.bor (.int x),.bor (.int y),.own (BO f),J,O,.no,.no,.no,.no]/\Rg C f 35/\1<=f.length/\j.2<=M.2+1) (λP2 o=>?_) λZ v u=>?_
   ·have I:∀v:Dr,v.2<=M.2+1->P2 (.nx [Sl.hnd,.bor (.bl false),.bor (.int w),.bor (.int h),.bor (.int x),.bor (.int y),.own (BO (C.filter (BU x y w h))),J,.no,.no,.no,.no,.no]) v:=λv g=>o _ _ {_,_,rfl,{rg.sub,rg.nd,Aw rg.ln 'z'},List.length_pos_of_mem c00,g}
    simp! [AD];by_cases h6:6<w
    ·rw[aV h6]
     simp!;by_cases h4:4<h
     ·rw[aV h4]
      simp!;refine ar 'z' 'z' 'o' λv7 v a7 b7 c7=>?_
      simp! [aS];by_cases L:v7=0
      ·have A:(v7 == 0)=true:=by rw[L];rfl
       rw[A];simp!;simp_all!;simp! [hA,AJ,AD,ep];rw[cd2 (x+3) (y+h-1)];have hin:((x+3,y+h-1):Ae)∈C.filter (BU x y w h):=C7.mpr {by rw[<-hC];exact bN.mpr {by show x<=x+3;omega,by show x+3<x+w;omega,by show y<=y+h-1;omega,by show y+h-1<y+h;omega},by simp[BU]};refine{_,_,by simp?! [BL,bZ],_,_,aR _,iw hin,?_};simp!;have e234:A6 [.int 2,.int 3,.int 4]=some (.tup [.int 2,.int 3,.int 4]):=rfl;simp! [e234];refine aO (λi Z j=>∃(f:List Ae) (O:Sl),Z=[Sl.hnd,.bor (.bl false),.bor (.int w),.bor (.int h),.bor (.int x),.bor (.int y),.own (BO f),J,O,.no,.no,.no,.no]/\Rg C f (32+i)/\(1<=i->1<=f.length)/\j=v) 0 {_,.no,rfl,rg.pop,λz=>absurd z 'z',rfl} (λi d Z j B u P pn=>?_) λZ j u=>?_
       ·obtain⟨f,O,r,p,_,e7⟩:=u
        obtain⟨e,rfl,hi,eb⟩:∃e:Int,d=.int e/\i<3/\2<=e/\e<=4:=by
         match i,B with
         | 0,B=>cases B;exact{_,rfl,'z','z'}
         | 1,B=>cases B;exact{_,rfl,'z','z'}
         | 2,B=>cases B;exact{_,rfl,'z','z'}
         | n+3,B=>simp at B
        subst r e7;have rll:=p.ln;refine{_,rfl,?_};simp! [AJ,AD,ep];rw[cd2 (x+e) (y+h-2)];refine{f.map Aa,tt f,by simp?! [BL,bZ],_,aR _,lt_size (by rw[Ai];omega),?_};rw[mD];exact pn _ _ {_,_,rfl,p.add (c:=(x+e,y+h-2)) (by rw[<-hC];exact bN.mpr {by show x<=x+e;omega,by show x+e<x+w;omega,by show y<=y+h-2;omega,by show y+h-2<y+h;omega}),λ_=>List.length_pos_of_mem u3,rfl}
       ·obtain⟨f,O,r,p,l1,e7⟩:=u
        subst r e7;exact o _ _ {f,O,rfl,p,l1 'z','o'}
      ·have A:(v7 == 0)=false:=beq_eq_false_iff_ne.mpr L
       rw[A];simp!;exact I v 'o'
     ·rw[aI h4]
      simp!;exact I M 'o'
    ·rw[aI h6]
     simp!;exact I M 'o'
   ·obtain⟨f,O,r,p,l1,t7⟩:=u
    subst r;have rll:=p.ln;simp_all!;simp! [AJ,AD];refine ar 'o' 'o' 'o' λv8 st8 a8 b8 c8=>?_
    simp! [AJ,AD];refine ar 'o' 'o' 'o' λv9 st9 a9 b9 c9=>?_
    simp! [AJ,AD,ep];generalize hsw:x+w+v8=sw at *;generalize hsh':y+h+v9=sh' at *;simp_all!;simp! [e00];refine fF 'o' 'o' 'o' 'o' ?_;have c81:(AA sw sh' (0,0)).length<=81:=bO 'o' 'o';have c1l:1<=(AA sw sh' (0,0)).length:=by
     rw[cq];have:1*1<=sw.toNat*sh'.toNat:=cQ 'o' 'o';omega
    have hCG:∀c∈C,c∈AA sw sh' (0,0):=λc F=>by
     rw[<-hC] at F;obtain⟨g1,g2,g3,g4⟩:=bN.mp F;exact bN.mpr {by show 0<=c.1;have:x<=c.1:=g1;omega,by show c.1<0+sw;have:c.1<x+w:=g2;omega,by show 0<=c.2;have:y<=c.2:=g3;omega,by show c.2<0+sh';have:c.2<y+h:=g4;omega}
    have hGG:∀c,c∈AA sw sh' (0,0)->c∈AA sw sh' (0,0):=λc z=>z
    generalize hG:AA sw sh' (0,0)=G at hCG hGG ⊢ c81 c1l;have hGs:∀c∈G,c∈AA sw sh' (0,0):=λc F=>by rw[hG];exact F
    have rlG:Rg G f 35:={λc F=>hCG c (p.sub c F),p.nd,p.ln};simp! [him];simp_all!;simp!;refine ar 'z' 'z' 'o' λs st10 a10 b10 c10=>?_
    simp!;refine br (λZ (j:Dr)=>∃f:List Ae,Z=[Sl.hnd,.bor (.bl false),.bor (.int w),.bor (.int h),.bor (.int x),.bor (.int y),.own (BO f),J,O,.bor (.tup [.int sw,.int sh']),.own (.lst (G.map Aa)),.bor (.int s),.no]/\Rg G f 35/\j.2<=st10.2+1) (λP2 o=>?_) λZ T u=>?_
    ·simp! [aS]
     by_cases L:s=0
     ·have A:(s == 0)=true:=by rw[L];rfl
      rw[A];simp! [hA,mE (show f.length<128 by omega),u4 (show f.length<=1000 by omega)];refine{f.map Aa,tt f,by simp?! [BL,bZ],?_};refine ar 'o' 'o' 'o' λN T a11 b11 c11=>?_
      have sl:(AK f).length=f.length:=(bx f).length_eq;have hk:N.toNat<(AK f).length:=by omega
      have W:Au (.lst ((AK f).map Aa)) (.int N)=some (Aa (AK f)[N.toNat]):=(bF (ao _) a11 (by rw[AX,Ba hk];rfl)).1;have hm:(AK f)[N.toNat]∈f:=(bx f).mem_iff.mp (List.getElem_mem hk);simp! [W];refine{_,_,aR _,iw hm,?_};exact o _ _ {_,rfl,rlG.pop,'o'}
     ·have A:(s == 0)=false:=beq_eq_false_iff_ne.mpr L
      rw[A];simp!;exact o _ _ {_,rfl,rlG,'o'}
    ·obtain⟨f,r,p,t11⟩:=u
     subst r;have rll:=p.ln;refine br (λZ (j:Dr)=>∃f:List Ae,Z=[Sl.hnd,.bor (.bl false),.bor (.int w),.bor (.int h),.bor (.int x),.bor (.int y),.own (BO f),J,O,.bor (.tup [.int sw,.int sh']),.own (.lst (G.map Aa)),.bor (.int s),.no]/\Rg G f 36/\j.2<=T.2+1) (λP2 o=>?_) λZ st12 u=>?_
     ·simp! [aS]
      by_cases L:s=1
      ·have A:(s == 1)=true:=by rw[L];rfl
       have olg:BF [.lst (G.map Aa)]=some (.int (G.length:Nat)):=by simp[BF]
       rw[A];simp! [olg];refine{f.map Aa,tt f,by simp?! [BL,bZ],?_};refine ar 'o' 'o' 'o' λv12 st12 a12 b12 c12=>?_
       have hk:v12.toNat<G.length:=by omega
       have W:Au (.lst (G.map Aa)) (.int v12)=some (Aa G[v12.toNat]):=(bF (ao _) a12 (by rw[AX,Ba hk];rfl)).1;simp! [W];refine{_,aR _,lt_size (by rw[Ai];omega),?_};rw[mD];exact o _ _ {_,rfl,p.add (List.getElem_mem hk),'o'}
      ·have A:(s == 1)=false:=beq_eq_false_iff_ne.mpr L
       rw[A];simp!;exact o _ _ {_,rfl,{p.sub,p.nd,Nat.le_succ_of_le p.ln},'o'}
     ·obtain⟨f,r,p,t12⟩:=u
      subst r;have rll:=p.ln;simp_all!;have q1:∃m:Int,Au (.lst [.int 2,.int 3]) (.int (if (w == 2)=true then 1 else 0))=some (.int m):=by
       cases (w == 2)
       ·exact{2,rfl}
       ·exact{3,rfl}
      obtain⟨m,em⟩:=q1;have el1:B6 [.int 2,.int 3]=some (.lst [.int 2,.int 3]):=rfl;have el2:B6 [.int 12,.int m]=some (.lst [.int 12,.int m]):=rfl;have ei2:Au (.lst [.int 12,.int m]) (.int 0)=some (.int 12):=rfl;simp! [aS,Gn,el1,em,el2,ei2];simp! [mE (show f.length<128 by omega)];obtain⟨s1,s2,s3⟩:=p.sort;refine uX s1 (λc F=>hGs c (s3 c F)) 'o' 'z' 'z' 'o' 'o' 'o' 'o' 'o' λsh U j F ht=>?_
      have i1:(Am sw sh' sh U).imm=true:=cT;have i2:(AB U).imm=true:=cU;have i3:(D.tup [Am sw sh' sh U,AB U]).imm=true:=uW;exact{.inl i3,hq _ _ _ _ _ F 'o'}
def mF(h:l.length<=127):Hk [.lst (l.map Aa)]=some (.lst ((AK l).map Aa)):=by
 have e:l.map Aa=l.map Cb:=FD λc _=>rfl
 have b:(AK l).map Aa=(AK l).map Cb:=FD λc _=>rfl
 show (CF (l.map Aa)).bind (λa=>if a.length<128 then some (D.lst ((AK a).map Cb)) else none)=_;rw[e,ft,b];exact if_pos 'o'
def mG{l:List Ae}:Ez (some 1) none (.lst (l.map Aa))=some (.lst ((l.drop 1).map Aa)):=by
 show (if D.immL (l.map Aa)=true then some (D.lst (L2.cutD (l.map Aa) (some ((1:Nat):Int)) none)) else none)=_;rw[if_pos (am ao l)];unfold L2.cutD;rw[HT.sIx_nat,HT.sIx_none,Ai];cases l with
 | nil=>rfl
 | cons a l=>
   rw[DC 'd',DR (by rw[En,Ai];exact Al _),List.map_drop]
def IK:List D->Dr->Ap Dr D:=CU 12 2 (zn9 By DQ).1
def u8{N:Dr}{Q:D->Dr->Prop}{E:AM->Dr->Prop}(c:N.2<2 ^ 38)(hq:∀w h U O g,HC w h U O->g.2<=N.2+100->Q (.tup [Am w h U O,AB O]) g):Ab (IK [.int 13] N) Q E:=by
 refine bU rfl 'z' ?_;unfold zn9;dsimp only;have n:∀l:List Ae,D.immL (l.map Aa)=true:=λl=>am ao l
 have A:∀l:List Tr,D.immL (l.map Tr.kind)=true:=λl=>am bz l
 have d:A6 [.int 0,.int 0]=some (Aa (0,0)):=rfl;have f:∀a b:Int,A6 [.int a,.int b]=some (.tup [.int a,.int b]):=λa b=>rfl
 simp_all!;simp!;refine ar 'z' 'z' 'o' λe c o i j=>?_
 simp! [AJ,AD];refine ar 'z' 'z' 'o' λi c j o e=>?_
 simp! [AJ,AD,f];refine br (λZ (g:Dr)=>∃(w h:Int),Z=[Sl.hnd,.bor (.int 13),.bor (.tup [.int w,.int h]),.no,.no,.no,.no,.no,.no,.no,.no,.no]/\1<=w/\w<=9/\1<=h/\h<=9/\g.2<=c.2+3) (λP2 j=>?_) λZ e r=>?_
 ·simp!
  refine ar 'z' 'z' 'o' λc e o i p=>?_
  simp! [aS];by_cases z:c=0
  ·have q:(c == 0)=true:=by rw[z];rfl
   rw[q];simp!;refine ar 'z' 'z' 'o' λW I a4 b4 c4=>?_
   simp! [AJ,AD];refine ar 'z' 'z' 'o' λv5 G R T c5=>?_
   simp! [AJ,AD,f];exact j _ _ {_,_,rfl,'o','o','o','o','o'}
  ·have q:(c == 0)=false:=beq_eq_false_iff_ne.mpr z
   rw[q];simp!;exact j _ _ {_,_,rfl,'o','o','o','o','o'}
 ·obtain⟨w,h,s,w1,w9,h1,h9,e⟩:=r
  subst s;have c:(AA w h (0,0)).length<=81:=bO w9 h9;have c:1<=(AA w h (0,0)).length:=by
   rw[cq];have:1*1<=w.toNat*h.toNat:=cQ 'o' 'o';omega
  have o:(AA w h (0,0)).Nodup:=ik;have c:decide ((13:Int)<6)=false:=rfl;simp_all!;simp! [AD,c];simp_all!;simp! [d];refine fF 'o' 'o' 'o' 'o' ?_;generalize hC:AA w h (0,0)=C at *;simp! [n];simp_all!;simp! [FT,n];simp_all!;simp! [bn];simp_all!;have E:∀l:List Ae,BF [.lst (l.map Aa)]=some (.int (l.length:Nat)):=λl=>by simp[BF]
  have d:=cr (a:=13) (b:=(C.length:Nat));have c:1<=CV 13 (C.length:Nat):=by rcases d.2.2 with e | e<;>rw[e]<;>omega
  simp! [E,cR];refine ar 'o' 'o' 'o' λf c p i u=>?_
  simp! [AJ,AD];rw[ba 'o' 'o'];have Y:(1+f).toNat<=13/\(1+f).toNat<=C.length:=by have:=d.1;have:=d.2.1;omega
  refine aO (λi Z g=>∃(left f:List Ae) (F:Sl),Z=[Sl.hnd,.bor (.int 13),.bor (.tup [.int w,.int h]),.own (.lst (C.map Aa)),.own (.lst (left.map Aa)),.own (.lst (f.map Aa)),F,.no,.no,.no,.no,.no]/\((f++left).Nodup/\∀x∈f++left,x∈C)/\f.length=i/\left.length+i=C.length/\g.2<=c.2+i) 0 {C,[],.no,rfl,{o,λx J=>J},rfl,'o','o'} (λi d Z g y r P M=>?_) λZ g r=>?_
  ·obtain⟨left,f,F,s,B,p,v,u⟩:=r
   obtain⟨rfl,hi⟩:=bg y;subst s;rw[Aq] at u p v;refine{_,rfl,?_};refine s7 (m:=f.map Aa) (l:=left.map Aa) 'z' (by simp only[AF,own?,frz,frz1,AO,gN,gT,Bp,BR,D.seq?,D.immL,az,aA,aB,aC,aG,aD,aE,ah,ay,aq,aH,ai,Bh,Bi,Bu,D.bl.injEq,D.int.injEq,D.str.injEq,Ga,Be,Da,Aq,if_true,if_false,Bool.and_true,Bool.true_and,C9,BV,EE,Option.some.injEq,exists_eq_left',exists_eq_left,exists_eq_right,true_or,or_true,true_and,and_true,Dl,FN,Option.some_or,FM,F8,Dj,List.cons_append,Fm,g0,gS,s0,sS,lC,lN,rd,putN,put,im,kp,vr,cn,o2,cs,nl,o1,ti,tb,boS,dbb,Nat.reduceAdd,Nat.reduceLT,Nat.reduceLeDiff,Nat.reduceSub,reduceIte,n]) (by simp only[AF,own?,frz,frz1,AO,gN,gT,Bp,BR,D.seq?,D.immL,az,aA,aB,aC,aG,aD,aE,ah,ay,aq,aH,ai,Bh,Bi,Bu,D.bl.injEq,D.int.injEq,D.str.injEq,Ga,Be,Da,Aq,if_true,if_false,Bool.and_true,Bool.true_and,C9,BV,EE,Option.some.injEq,exists_eq_left',exists_eq_left,exists_eq_right,true_or,or_true,true_and,and_true,Dl,FN,Option.some_or,FM,F8,Dj,List.cons_append,Fm,g0,gS,s0,sS,lC,lN,rd,putN,put,im,kp,vr,cn,o2,cs,nl,o1,ti,tb,boS,dbb,Nat.reduceAdd,Nat.reduceLT,Nat.reduceLeDiff,Nat.reduceSub,reduceIte,n]) (lt_size (by rw[Ai];omega)) ?_;simp! [E];refine ar 'o' 'o' 'o' λo c Q b7 E=>?_
   obtain⟨k,c,L,E⟩:=mz Q b7 'o';have o:k<left.length:=(Bd.mp L).1;simp!;refine{_,E,?_};refine M _ _ {left.eraseIdx k,f++[c],.bor (.int (0+(i:Int))),?_,{mw L B.1,λx J=>B.2 x (mx L J)},by rw[A4,p];simp,by rw[List.length_eraseIdx,if_pos o];omega,'o'};rw[A7];rfl
  ·obtain⟨x,E⟩:∃x:Dr,x=g:={_,rfl}
   rw[<-E] at r ⊢;clear E;obtain⟨left,f,F,s,B,p,v,u⟩:=r;subst s;rw[bq,Aq] at u p v;simp!;simp_all!;simp! [mG,n];refine br (λZ (g:Dr)=>∃(p:List Ae),Z=[Sl.hnd,.bor (.int 13),.bor (.tup [.int w,.int h]),.own (.lst (C.map Aa)),.own (.lst (left.map Aa)),.own (.lst (f.map Aa)),F,.own (.lst (p.map Aa)),.no,.no,.no,.no]/\p.Sublist (f.drop 1)/\g.2<=x.2+1) (λP2 j=>?_) λZ v r=>?_
   ·simp!
    refine ar 'z' 'z' 'o' λx v E L J=>?_
    simp! [aS];by_cases z:x=0
    ·have q:(x == 0)=true:=by rw[z];rfl
     rw[q];simp! [mG,n];exact j _ _ {_,rfl,List.drop_sublist _ _,'o'}
    ·have q:(x == 0)=false:=beq_eq_false_iff_ne.mpr z
     rw[q];simp!;exact j _ _ {_,rfl,List.Sublist.refl _,'o'}
   ·obtain⟨p,s,j,x⟩:=r
    subst s;have q:p.length<=12:=by have:=j.length_le;rw[En] at this;omega
    have L:p.Nodup:=(j.trans (List.drop_sublist _ _)).nodup (El.mp B.1).1;have J:∀c∈p,c∈freeC w h (AK left) []:=λc E=>by
     have q:c∈f:=(j.trans (List.drop_sublist _ _)).subset E;have Y:c∉AK left:=λz=>(El.mp B.1).2.2 c q c ((bx left).mem_iff.mp z) rfl
     rw[fG,hC,C7];exact{B.2 c (Ei _ q),by rw[aI Y];rfl}
    have Q:left.length<=81:=by omega
    simp_all!;simp! [bn];simp_all!;simp!;refine aO (λi Z g=>∃(j:List Tr) (B z x:Sl),Z=[Sl.hnd,.bor (.int 13),.bor (.tup [.int w,.int h]),.own (.lst (C.map Aa)),.own (.lst (left.map Aa)),.own (.lst (f.map Aa)),F,.bor (.lst (p.map Aa)),.own (.lst (j.map Tr.kind)),B,z,x]/\j.length=i/\pl j=p.take i/\(∀t∈j,(1<=t.w/\t.w<=2/\t.h=1)/\Bo t.ways)/\g.2<=v.2+2*i) 0 {[],.no,.no,.no,rfl,rfl,by simp[pl],λt u=>absurd u 'd','o'} (λi d Z g y r P M=>?_) λZ g r=>?_
    ·obtain⟨j,B,z,x,s,o,d,v,u⟩:=r
     rw[AX] at y;cases q:p[i]? with
     | none=>rw[q] at y;cases y
     | some c=>
       rw[q] at y;cases y;have hi:i<p.length:=(Bd.mp q).1;subst s;rw[Aq] at u o d;refine{_,rfl,?_};simp_all!;simp!;refine ar 'z' 'z' 'o' λW I a4 b4 c4=>?_
       simp!;refine ar 'z' 'z' 'o' λv5 G R T c5=>?_
       obtain⟨i,C,F⟩:=uU a4 b4;obtain⟨f,y⟩:=mB R T;have I:B6 [.str "any",.str "any",.str "any",.str "row",.str "column",.str "none"]=some (.lst [.str "any",.str "any",.str "any",.str "row",.str "column",.str "none"]):=rfl;have G:B6 [.int 0,.int 1,.int 0,.int 1,.int (-1)]=some (.lst [.int 0,.int 1,.int 0,.int 1,.int (-1)]):=rfl;have P:A6 [.int 1,.int 1,.str i,.int f]=some (kd 1 1 i f):=ee ah ah ay ah;simp! [AF,A,I,C];simp! [G,y,P];refine{_,bV hM (by rw[Ai];omega),?_};refine M _ _ {j++[{1,1,i,f,c.1,c.2}],.bor (Aa c),.bor (.int W),.bor (.int v5),?_,by rw[A4,o];simp,?_,λt u=>?_,'o'}
       ·rw[A7];rfl
       ·have e:pl (j++[⟨1,1,i,f,c.1,c.2⟩])=pl j++[c]:=by unfold pl;rw[A7];rfl
        rw[e,d,Aq,Cu,q];rfl
       ·rcases Br.mp u with e | e
        ·exact v t e
        ·rw[A8.mp e];exact{{EW 1,by show (1:Int)<=2;decide,rfl},F}
    ·obtain⟨j,B,z,x,s,o,d,v,u⟩:=r
     subst s;rw[Ai,Aq] at u o d;rw[Ck] at d;have i:BK [.lst ((AK left).map Aa)]=some (.tup ((AK left).map Aa)):=by simp[BK,n]
     have q:BK [.lst (j.map Tr.kind)]=some (.tup (j.map Tr.kind)):=by simp[BK,A]
     have o:BK [.lst (p.map Aa)]=some (AB j):=by rw[eu,d];simp[BK,n]
     have r:A6 [.tup ((AK left).map Aa),.tup (j.map Tr.kind)]=some (.tup [.tup ((AK left).map Aa),.tup (j.map Tr.kind)]):=aW (by rw[ai];exact n _) (by rw[ai];exact A j);have s:AJ (.tup [.int w,.int h]) (.tup [.tup ((AK left).map Aa),.tup (j.map Tr.kind)])=some (Am w h (AK left) j):=ir rfl mC 'd';have e:(Am w h (AK left) j).imm=true:=cT;have f:(AB j).imm=true:=cU;have n:A6 [Am w h (AK left) j,AB j]=some (.tup [Am w h (AK left) j,AB j]):=aW e f;have u:(AK left).length<=81:=by rw[(bx left).length_eq];exact Q
     have x:SG p j []:={λc E=>by rw[d,C8] at E;exact E,by rw[d,C8];exact L,'d',v};simp! [mF (show left.length<=127 by omega),i,q,o,r,s,n,e,f];exact hq w h _ j g (x.hc J w1 w9 h1 h9 u 'o') 'o'
def CY(c:Ae):List Ae:=[(c.1+1,c.2),(c.1,c.2+1),(c.1-1,c.2),(c.1,c.2-1)]
def mH(h:x∈CY c):c∈CY x:=by
 obtain⟨a,b⟩:=c;obtain⟨d,e⟩:=x;simp only[CY,AL,Prod.mk.injEq,BW,or_false] at h ⊢;omega
def u9:c∉CY c:=λh=>by
 obtain⟨a,b⟩:=c;simp only[CY,AL,Prod.mk.injEq,BW,or_false] at h;omega
def va(c:Ae):(CY c).Nodup:=by
 obtain⟨a,b⟩:=c;simp only[CY,Dk,AL,Prod.mk.injEq,BW,or_false,not_false_eq_true,List.nodup_nil,and_true];omega
instance nb(F:List Ae)(c:Ae):List Ae:=AK ((CY c).filter λx=>decide (x∈F))
def cW:x∈nb F c↔x∈CY c/\x∈F:=by
 unfold nb;rw[(bx _).mem_iff,C7,decide_eq_true_eq]
def vb(F:List Ae)(c:Ae):(nb F c).Nodup:=(bx _).symm.nodup ((va c).filter _)
instance two(F:List Ae):Bool:=F.all λc=>decide ((nb F c).length=2)
def fL(h:two F=true)(e:c∈F):∃a b,nb F c=[a,b]/\a≠b:=by
 have d:(nb F c).length=2:=of_decide_eq_true (FI.mp h c e);have f:=vb F c
 match e:nb F c,d,f with
 | [a,b],_,f=>exact{a,b,rfl,λe=>by rw[e] at f;simp at f}
 | [],d,_=>cases d
 | [_],d,_=>cases d
 | _::_::_::_,d,_=>simp at d
def Eb(F:List Ae)(p c:Ae):Ae:=match nb F c with
 | [a,b]=>if a=p then b else a
 | _=>c
def vc(h:two F=true)(g:c∈F)(d:p∈nb F c):Eb F p c∈nb F c/\Eb F p c≠p/\∀x∈nb F c,x=p\/x=Eb F p c:=by
 obtain⟨a,b,e,f⟩:=fL h g;unfold Eb;rw[e] at d ⊢;show (if a=p then b else a)∈[a,b]/\(if a=p then b else a)≠p/\∀x∈[a,b],x=p\/x=if a=p then b else a
 by_cases q:a=p
 ·rw[if_pos q]
  exact{'d',λz=>f (q.trans z.symm),λx a=>by simpa [q] using a}
 ·rw[if_neg q]
  have c:p=b:=by
   rcases AL.mp d with z | z
   ·exact absurd z.symm q
   ·exact A8.mp z
  exact{'d',q,λx a=>by rw[c];simpa [or_comm] using a}
structure Wk(F:List Ae)(s:Ae)(r:List Ae)(p c:Ae):Prop where
 hd:∃t,r=s::t/\c∉t/\∀y∈t,∀x∈nb F y,x∈r\/(y=p/\x=c)
 ls:∃q,r=q++[p]
 nd:r.Nodup
 sub:∀y∈r,y∈F
 adj:c∈nb F p
def Wk.start(b:s∈F)(d:c∈nb F s):Wk F s [s] s c:=
 {{[],rfl,'d',λy a=>absurd a 'd'},{[],rfl},'d',λy a=>by rw[A8.mp a];exact b,d}
def Wk.step(h:Wk F s r p c)(m:two F=true)(d:c≠s):Wk F s (r++[c]) c (Eb F p c):=by
 obtain⟨⟨t,e,s,l⟩,⟨q,b⟩,o,g,a⟩:=h;have f:c∈F:=(cW.mp a).2;have j:p∈r:=by rw[b];simp
 have i:p∈nb F c:=cW.mpr {mH (cW.mp a).1,g p j};obtain⟨b,q,n⟩:=vc m f i;have h:c∉r:=λz=>by
  rw[e] at z;rcases AL.mp z with z | z
  ·exact d z
  ·exact s z
 refine{{t++[c],by rw[e];rfl,λz=>?_,λy d x e=>?_},⟨r,rfl⟩,?_,λy d=>?_,b}
 ·rcases Br.mp z with z | z
  ·have a:c∈nb F (Eb F p c):=cW.mpr {mH (cW.mp b).1,f}
   rcases l _ z c a with w | w
   ·exact h w
   ·exact q w.1
  ·have z:=A8.mp z
   rw[z] at b;exact u9 (cW.mp b).1
 ·rcases Br.mp d with d | d
  ·rcases l y d x e with w | w
   ·exact .inl (Ei _ w)
   ·exact .inl (by rw[w.2];simp)
  ·rw[A8.mp d] at e ⊢
   rcases n x e with w | w
   ·exact .inl (by rw[w];exact Ei _ j)
   ·exact .inr ⟨rfl,w⟩
 ·exact El.mpr {o,'d',λa e b c z=>h (by rw[<-A8.mp c,<-z];exact e)}
 ·rcases Br.mp d with d | d
  ·exact g y d
  ·rw[A8.mp d];exact f
def AI(F:List Ae)(s:Ae):Nat->List Ae×Ae×Ae
 | 0=>([s],s,(nb F s).headD s)
 | k+1=>((AI F s k).1++[(AI F s k).2.2],(AI F s k).2.2,Eb F (AI F s k).2.1 (AI F s k).2.2)
theorem fM(c:two F=true)(d:s∈F):∀k,(∀j<k,(AI F s j).2.2≠s)->Wk F s (AI F s k).1 (AI F s k).2.1 (AI F s k).2.2
 | 0,_=>by
   obtain⟨a,b,e,_⟩:=fL c d;refine Wk.start d ?_;show (nb F s).headD s∈nb F s;rw[e];simp
 | k+1,h=>(fM c d k λj a=>h j 'o').step c (h k 'o')
theorem ix:∀k,(AI F s k).1.length=k+1
 | 0=>rfl
 | k+1=>by
   show ((AI F s k).1++[(AI F s k).2.2]).length=_;rw[A4,ix k];rfl
def vd{p:Nat->Prop}:∀n,(∃k,k<=n/\p k)->∃k,k<=n/\p k/\∀j<k,¬p j:=λn=>by
 induction n with
 | zero=>
   rintro ⟨k,g,d⟩;have e:k=0:=by omega
   exact{0,'o',e▸d,λj f=>absurd f 'o'}
 | succ n e=>
   rintro ⟨k,g,d⟩;by_cases h:∃k,k<=n/\p k
   ·obtain⟨k,a,b,c⟩:=e h;exact{k,'o',b,c}
   ·exact{k,g,d,λj f a=>h {j,'o',a}}
def mI{F:List Ae}{s:Ae}(a:two F=true)(b:s∈F):∃k,k<=F.length/\(AI F s k).2.2=s/\∀j<k,(AI F s j).2.2≠s:=by
 refine vd (p:=λk=>(AI F s k).2.2=s) F.length ?_;by_cases h:∃k,k<=F.length/\(AI F s k).2.2=s
 ·exact h
 ·have w:=fM a b F.length λj c z=>h {j,'o',z}
  have:=cV w.nd w.sub;rw[ix] at this;omega
open Classical in
def Dt(F:List Ae)(s:Ae):Nat:=if h:∃k,k<=F.length/\(AI F s k).2.2=s/\∀j<k,(AI F s j).2.2≠s then choose h else 0
def mJ(a:two F=true)(b:s∈F):Dt F s<=F.length/\(AI F s (Dt F s)).2.2=s/\∀j<Dt F s,(AI F s j).2.2≠s:=by
 unfold Dt;rw[dif_pos (mI a b)];exact Classical.choose_spec (mI a b)
def FZ(F:List Ae):Option (List Ae):=match F with
 | []=>none
 | s::_=>if two F=true then (if (AI F s (Dt F s)).1.length<F.length then none else some (AI F s (Dt F s)).1) else none
def mK(a:F.Nodup)(h:FZ F=some r):(∀c∈F,c∈r)/\(∀c∈r,c∈F)/\r.Nodup:=by
 cases F with
 | nil=>cases h
 | cons s l=>
   have h:(if two (s::l)=true then (if (AI (s::l) s (Dt (s::l) s)).1.length<(s::l).length then none else some (AI (s::l) s (Dt (s::l) s)).1) else none)=some r:=h;by_cases a:two (s::l)=true
   ·rw[if_pos a] at h
    have d:s∈s::l:=C6;obtain⟨_,_,e⟩:=mJ a d;have w:=fM a d _ e;by_cases b:(AI (s::l) s (Dt (s::l) s)).1.length<(s::l).length
    ·rw[if_pos b] at h;cases h
    ·rw[if_neg b] at h;cases h
     refine{λc e=>Classical.byContradiction λd=>?_,w.sub,w.nd};have:=cV (l:=c::(AI (s::l) s (Dt (s::l) s)).1) (m:=s::l) (Dk.mpr ⟨d,w.nd⟩) λx b=>by
      rcases AL.mp b with z | z
      ·rw[z];exact e
      ·exact w.sub x z
     rw[B1] at this;omega
   ·rw[if_neg a] at h;cases h
def CZ(ps r:List Ae):List Int:=(r.filter λc=>decide (c∈ps)).map λc=>(Cr c ps:Int)
instance rot(l:List Int)(k:Nat):List Int:=l.drop k++l.take k
def Du(ts:List Tr)(F:List Ae):D:=if AS ts=true then (match FZ F with
 | none=>.non
 | some r=>.tup ((rot (CZ (pl ts) r) ((CZ (pl ts) r).idxOf 0)).map D.int)) else .non
def ve(g:F.Nodup)(f:FZ F=some r)(e:∀c∈pl b,c∈F)(a:CZ (pl b) r≠[]):(0:Int)∈CZ (pl b) r:=by
 cases d:pl b with
 | nil=>
   exfalso;apply a;unfold CZ;rw[d];simp
 | cons c l=>
   have a:c∈F:=e c (by rw[d];simp);unfold CZ;refine Cv.mpr {c,C7.mpr {(mK g f).1 c a,'d'},?_};unfold Cr;rw[if_pos rfl];rfl
def CO(F:List Ae)(c:Ae):D:=.fl ((nb F c).map Aa)
def iy(F:List Ae)(c:Ae):(CO F c).imm=true:=id (am ao _)
def CP(F Lv0:List Ae):List D:=Lv0.map (CO F)
def iz(F a:List Ae):D.immL (CP F a)=true:=am (iy F) a
theorem iA:∀b:List Ae,Ar (ck c) (b.map Aa) (CP F b)=if c∈b then some (CO F c) else none
 | []=>rfl
 | a::b=>by
   show Ar (ck c) (Aa a::b.map Aa) (CO F a::CP F b)=_;unfold Ar;rw[aR,iA b];by_cases h:a=c
   ·subst h;simp
   ·have d:¬some (ck a)=some (ck c):=λz=>h (ej (Option.some.inj z))
    have b:c≠a:=λz=>h z.symm
    rw[if_neg d];simp[b]
def vf(h:c∉Lv0):AY (ck c) (CO F c) (Lv0.map Aa) (CP F Lv0)=((Lv0++[c]).map Aa,CP F (Lv0++[c])):=by
 unfold AY;rw[iA,if_neg h];unfold CP;rw[A7,A7];rfl
def mL(h:c∈Lv0):Gy (.dct (.non::Lv0.map Aa) (CP F Lv0)) (Aa c)=some (CO F c)/\Hu (.fd (Lv0.map Aa) (CP F Lv0)) (Aa c)=some (CO F c):=by
 have e:im (Ar (ck c) (Lv0.map Aa) (CP F Lv0))=some (CO F c):=by rw[iA,if_pos h];simp[im,iy]
 exact⟨e,e⟩
def vg(c:Ae):[(0:Int),1,2,3].map (λd=>(c.1+dx d,c.2+dy d))=CY c:=by simp[CY,dx,dy];omega
def vh:Cq 0 (4:Int).toNat=[(0:Int),1,2,3].map D.int:=rfl
def vi:Hk [.lst (((CY c).filter λx=>decide (x∈F)).map Aa)]=some (.lst ((nb F c).map Aa)):=mF (Aw (Fd _ (CY c)) (by show 4<=127;decide))
def vj:oFz (.lst ((nb F c).map Aa))=some (CO F c):=if_pos (am ao _)
def mM{a:List Ae}{i:Nat}{c:Ae}(h:a.Nodup)(q:a[i]?=some c):c∉a.take i/\a.take (i+1)=a.take i++[c]:=by
 have d:a.take (i+1)=a.take i++[c]:=by rw[Cu,q];rfl
 refine{λz=>?_,d};have b:=(List.take_sublist (i+1) a).nodup h;rw[d] at b;exact(El.mp b).2.2 c z c 'd' rfl
def IL:List D->Ap Unit D:=Bj 5 1 (zp4 FB).1
def vm{F:List Ae}{Q:D->Unit->Prop}{E:AM->Unit->Prop}(r:F.Nodup)(b:F.length<=81)(s:Q (.dct (.non::F.map Aa) (CP F F)) ()):Ab (IL [.lst (F.map Aa)]) Q E:=by
 refine aK rfl 'z' ?_;unfold zp4;dsimp only;have m:∀l:List Ae,D.immL (l.map Aa)=true:=λl=>am ao l
 simp_all!;simp!;simp_all!;simp!;refine aO (λi Z e=>∃h:Sl,Z=[Sl.bor (.lst (F.map Aa)),.own (BO (F.take i)),h,.no,.no]) 0 {_,rfl} (λi d Z e b g P j=>?_) λZ e g=>?_
 ·obtain⟨h,f⟩:=g
  rw[AX] at b;cases q:F[i]? with
  | none=>rw[q] at b;cases b
  | some c=>
    rw[q] at b;cases b;subst f;rw[Aq];obtain⟨n,o⟩:=mM r q;refine{_,rfl,?_};simp!;refine{(F.take i).map Aa,tt (F.take i),by simp?! [BL,bZ],_,aR c,lt_size (by rw[Ai,B9];omega),?_};rw[fE n,<-o];exact j _ _ {_,by rw[Aq]}
 ·obtain⟨h,f⟩:=g
  subst f;rw[Ai,Aq,Ck];simp!;simp_all!;simp!;simp_all!;simp!;refine aO (λi Z e=>∃h l:Sl,Z=[Sl.bor (.lst (F.map Aa)),.own (BO F),h,.own (.dct (.non::(F.take i).map Aa) (CP F (F.take i))),l]) 0 {_,_,rfl} (λi d Z e b g P j=>?_) λZ e g=>?_
  ·obtain⟨h,l,f⟩:=g
   rw[AX] at b;cases q:F[i]? with
   | none=>rw[q] at b;cases b
   | some c=>
     rw[q] at b;cases b;subst f;rw[Aq];obtain⟨n,o⟩:=mM r q;refine{_,rfl,?_};simp_all!;simp!;rw[ba 'z' 'z',vh];simp!;refine cc (xs:=[(0:Int),1,2,3]) (a:=D.int) (y:=λd=>Aa (c.1+dx d,c.2+dy d)) (p:=λ_=>true) (λZ=>∃z,Z=[z,Sl.bor (Aa c)]) {_,rfl} (λd b Z hI145=>?_) (aU 'z') ?_
     ·obtain⟨z,f⟩:=hI145
      subst f;refine{_,rfl,{_,rfl},?_,λ_=>?_}
      ·simp!
      ·simp!
       refine hZ (d:=d) (by simp only[AL,BW,or_false] at b;unfold Dir;omega) ?_;simp! [ao]
     ·have b:([(0:Int),1,2,3].filter λ_=>true).map (λd=>Aa (c.1+dx d,c.2+dy d))=(CY c).map Aa:=by rw[<-vg];rfl
      rw[b];simp! [m,hB];refine cc (xs:=CY c) (a:=Aa) (y:=Aa) (p:=λx=>decide (x∈F)) (λZ=>∃z,Z=[z,Sl.bor (BO F)]) {_,rfl} (λx b Z hI146=>?_) (aU (by show 4<=1000;decide)) ?_
      ·obtain⟨z,f⟩:=hI146
       subst f;refine{_,rfl,{_,rfl},?_,λ_=>?_}
       ·simp! [ml]
       ·simp! [ao]
      ·simp! [vi,vj,hB]
       refine{(F.take i).map Aa,CP F (F.take i),by simp?! [BL,iz],_,aR c,iy F c,lt_size (by rw[Ai,B9];omega),?_};rw[vf n,<-o];exact j _ _ {_,_,by rw[Aq]}
  ·obtain⟨h,l,f⟩:=g
   subst f;rw[Ai,Aq,Ck];simp! [iz];exact s
def mN{neg:Bool}:BE neg (Aa a) (Aa b)=some (.bl (if neg then !decide (a=b) else decide (a=b))):=by
 unfold BE;rw[if_pos (Aw (dC a) 'z'),fK];rfl
def GJ(F:List Ae):D:=match FZ F with
 | none=>.non
 | some r=>.lst (r.map Aa)
def vn(a:q.length<=200):Au (.lst ((q++[p]).map Aa)) (.int (-1))=some (Aa p):=by
 have e:BC ((q++[p]).map Aa) (-1)=some (Aa p):=by
  unfold BC B3;rw[if_neg 'z',if_pos (by rw[Ai,A4];simp;omega)];show ((q++[p]).map Aa)[(-1+(((q++[p]).map Aa).length:Int)).toNat]?=_;have a:(-1+(((q++[p]).map Aa).length:Int)).toNat=q.length:=by rw[Ai,A4];simp;omega
  rw[a,AX,List.getElem?_append_right (Al _),Nat.sub_self];rfl
 show im (BC ((q++[p]).map Aa) (-1))=_;rw[e];simp[im,ao]
instance muR(K:Nat)(Z:Ag):Nat:=match Z[3]? with
 | some (Sl.own (D.lst l))=>K+1-l.length
 | _=>0
def IM:List D->Ap Unit D:=Bj 8 1 (Iy GH IL).1
def vo{d e:Int}(hs:u.length<=81)(hw:0<=d/\d<=9)(hh:0<=e/\e<=9)(i:Q (GJ (freeC d e u [])) ()):Ab (IM [Am d e u ts]) Q E:=by
 refine aK rfl 'z' ?_;unfold Iy;dsimp only;have f:∀l:List Ae,D.immL (l.map Aa)=true:=λl=>am ao l
 have nd:(freeC d e u []).Nodup:=fJ;have fl:(freeC d e u []).length<=81:=fH hw.2 hh.2;simp_all!;simp!;refine mr hs hw hh ?_;generalize freeC d e u []=F at *;simp! [f];simp_all!;simp! [hB];refine vm nd fl ?_;have ez:oFz (.dct (.non::F.map Aa) (CP F F))=some (.fd (F.map Aa) (CP F F)):=if_pos (iz F F);simp! [ez];simp_all!;have ol:∀c,Ht [CO F c]=some (.int ((nb F c).length:Nat)):=λc=>by simp[Ht,CO]
 have en:=dD (neg:=false) (ig F);have o0:B6 []=some (.lst []):=rfl;simp! [o0,en];cases J:F with
 | nil=>
   rw[J] at i;simp! [Da,decide_true];exact i
 | cons s l=>
   have e0:decide ((s::l).map Aa=[])=false:=rfl;rw[e0,<-J];simp! [D.fd?];refine cc (xs:=F) (a:=CO F) (y:=λc=>.bl (!decide ((nb F c).length=2))) (p:=λ_=>true) (λZ=>∃z,Z=[z]) {_,rfl} (λc G Z hI147=>?_) (aU 'o') ?_
   ·obtain⟨z,er⟩:=hI147
    subst er;refine{_,rfl,{_,rfl},?_,λ_=>?_}
    ·simp!
    ·have e2:((((nb F c).length:Nat):Int) == 2)=decide ((nb F c).length=2):=by
      rw[Fo];simp;omega
     simp! [ol,aS,e2]
   ·have ef:(F.filter λ_=>true).map (λc=>D.bl (!decide ((nb F c).length=2)))=F.map λc=>D.bl (!decide ((nb F c).length=2)):=by rw[List.filter_eq_self.mpr (λ_ _=>rfl)]
    have ea:(F.map λc=>!decide ((nb F c).length=2)).any id=!two F:=by
     unfold two;rw[List.any_map,List.not_all_eq_any_not];rfl
    rw[ef];simp! [Gp,fg,Option.map_some,ea];have h:s∈F:=by rw[J];exact C6
    have M:Au (.lst (F.map Aa)) (.int 0)=some (Aa s):=by rw[J];exact(bF (l:=(s::l).map Aa) (v:=0) (ao s) (EW 0) rfl).1
    have A:FZ F=if two F=true then (if (AI F s (Dt F s)).1.length<F.length then none else some (AI F s (Dt F s)).1) else none:=by rw[J];rfl
    cases B:two F with
    | false=>
      have e1:GJ F=.non:=by unfold GJ;rw[A,B];rfl
      rw[e1] at i;simp!;exact i
    | true=>
      rw[B,if_pos rfl] at A;obtain⟨k1,k2,Y⟩:=mJ B h;generalize Dt F s=K at *;simp!;simp_all!;have el:B6 [Aa s]=some (.lst [Aa s]):=ci (by simp[D.immL,ao]) 'd';simp! [M,el];simp_all!;obtain⟨a,b,T,nab⟩:=fL B h;have eh:Iv (CO F s) (.int 0)=some (Aa ((nb F s).headD s)):=by
       unfold CO;rw[T];show im (some (Aa a))=some (Aa a);simp[im,ao]
      simp! [M,(mL h).2,eh];have W:∀c:Ae,(Aa c).flat=false:=λ_=>rfl
      simp! [ao,W];rw  [ax];refine l7 (λZ st=>∃(k:Nat) (x5 x6 x7:Sl),Z=[Sl.bor (Am d e u ts),.own (.lst (F.map Aa)),.bor (.fd (F.map Aa) (CP F F)),.own (.lst ((AI F s k).1.map Aa)),.bor (Aa (AI F s k).2.2),x5,x6,x7]/\k<=K) (λZ _=>muR K Z) {0,_,_,_,rfl,AR _} ?_;intro Z st hI P Zv0 pn pr pz;obtain⟨k,x5,x6,x7,rfl,hk⟩:=hI;have wl:=ix (F:=F) (s:=s) k;have L:=mN (neg:=true) (a:=(AI F s k).2.2) (b:=s);have wk:=fM B h k λj hj=>Y j 'o'
      by_cases G:(AI F s k).2.2=s
      ·have o:k=K:=Classical.byContradiction λz=>Y k 'o' G
       subst o;rw[aV G] at L;simp! [M,L];refine pz _ ?_;have O:BF [.lst ((AI F s k).1.map Aa)]=some (.int ((AI F s k).1.length:Nat)):=by simp[BF]
       have N:BF [.lst (F.map Aa)]=some (.int (F.length:Nat)):=by simp[BF]
       simp_all!;simp! [O,N,AD];unfold GJ at i;by_cases hl:(AI F s k).1.length<F.length
       ·rw[if_pos hl] at A
        rw[A] at i;rw[aV (show (((AI F s k).1.length:Nat):Int)<(F.length:Nat) by omega)];simp!;exact i
       ·rw[if_neg hl] at A
        rw[A] at i;rw[aI (show ¬(((AI F s k).1.length:Nat):Int)<(F.length:Nat) by omega)];simp! [f];exact i
      ·rw[aI G] at L
       simp! [M,L];have C:(AI F s k).2.2∈F:=(cW.mp wk.adj).2;have o:k<K:=Fh hk λz=>G (by rw[z];exact k2)
       obtain⟨n,I,e',_⟩:=fL B C;obtain⟨q,eq⟩:=wk.ls;have ew:AI F s (k+1)=((AI F s k).1++[(AI F s k).2.2],(AI F s k).2.2,Eb F (AI F s k).2.1 (AI F s k).2.2):=rfl;have m:Eb F (AI F s k).2.1 (AI F s k).2.2=if n=(AI F s k).2.1 then I else n:=by unfold Eb;rw[e']
       have R:CO F (AI F s k).2.2=.fl [Aa n,Aa I]:=by unfold CO;rw[e'];rfl
       generalize (AI F s k).2.2=c at *;generalize (AI F s k).2.1=p at *;generalize (AI F s k).1=r at *;simp_all!;simp! [(mL C).2,R,gF];have rl:r.length<=82:=by omega
       have x:Au (.lst (r.map Aa)) (.int (-1))=some (Aa p):=by
        have ql:q.length<=200:=by rw[eq,A4] at rl;omega
        rw[eq];exact vn ql
       have U:=mN (neg:=false) (a:=n) (b:=p);have fin:∀y:Ae,y=Eb F p c->P (.nx [Sl.bor (Am d e u ts),.own (.lst (F.map Aa)),.bor (.fd (F.map Aa) (CP F F)),.own (.lst (r.map Aa++[Aa c])),.bor (Aa y),.bor (Aa n),.bor (Aa I),.bor (Aa y)]) st:=λy hy=>by
        refine pn _ _ {k+1,.bor (Aa n),.bor (Aa I),.bor (Aa y),?_,o} ?_
        ·rw[ew,hy,A7];rfl
        ·show K+1-(r.map Aa++[Aa c]).length<K+1-(r.map Aa).length
         rw[A4,Ai];simp;omega
       simp_all!;simp! [x,U];by_cases g:n=p
       ·rw[if_pos g] at m
        rw[aV g];simp! [ao,W];simp_all!;simp! [AF,f];refine{_,bV (ao c) (by rw[Ai];omega),?_};simp!;exact fin I m.symm
       ·rw[if_neg g] at m
        rw[aI g];simp! [ao,W];simp_all!;simp! [AF,f];refine{_,bV (ao c) (by rw[Ai];omega),?_};simp!;exact fin n m.symm
theorem mO:∀{l:List Ae} {m:Nat},l.Nodup->l[m]?=some c->Cr c l=m
 | a::l,0,_,h=>by
   cases h;unfold Cr;rw[if_pos rfl]
 | a::l,m+1,d,h=>by
   have f:l[m]?=some c:=h;have g:c∈l:=Ct f;have b:a≠c:=λe=>(Dk.mp d).1 (e▸g)
   unfold Cr;rw[if_neg b,mO (Dk.mp d).2 f]
 | [],_,_,h=>by simp at h
def vp(f:D.immL a=true)(e:D.immL b=true)(h:a.length+b.length<=1000):AJ (.lst a) (.lst b)=some (.lst (a++b)):=by
 have c:AD (λi j=>D.int (i+j)) (.lst a) (.lst b)=none:=rfl;have d:Gu (.lst a) (.lst b)=some (.lst (a++b)):=if_pos {f,e,aU h};unfold AJ;rw[c,d];rfl
def vq(h:AS d=true)(l:(pl d).Nodup)(p:c∉i):BG (BZ i d) c=if c∈pl d then some (Cr c (pl d):Int) else none:=by
 have o:d.Pairwise λa b=>∀c∈a.cells,c∉b.cells:=by
  have e:d.Pairwise λa b=>((a.x,a.y):Ae)≠(b.x,b.y):=F9.mp l
  refine List.Pairwise.imp_of_mem (λ{a b} n m g q j f=>?_) e;rw[cu (bP h n)] at j;rw[cu (bP h m)] at f;exact g ((A8.mp j).symm.trans (A8.mp f))
 have a:BG (i.map λc=>(c,(-1:Int))) c=none:=by rw[hW,if_neg p]
 unfold BZ;rw[md,a,Option.or_none];by_cases e:c∈pl d
 ·obtain⟨m,b⟩:=List.getElem?_of_mem e
  have a:(d.map λt=>(t.x,t.y))[m]?=some c:=b;rw[AX] at a;cases q:d[m]? with
  | none=>rw[q] at a;cases a
  | some t=>
    rw[q] at a;cases a;rw[if_pos e,mO l b,uv q (by rw[cu (bP h (Ct q))];exact A8.mpr rfl) o]
 ·rw[if_neg e]
  refine uu λt a f=>e ?_
  rw[cu (bP h a)] at f;rw[A8.mp f];exact Cv.mpr ⟨t,a,rfl⟩
def vt(h:AS a=true)(l:(pl a).Nodup)(b:CW d (BZ i a))(j:c∉i):Ds false (Aa c) d=some (.bl (decide (c∈pl a)))/\(c∈pl a->Gy d (Aa c)=some (.int (Cr c (pl a)))):=by
 obtain⟨f,d,rfl,_,_,_,g⟩:=b;have e:=g c;rw[vq h l j] at e;constructor
 ·show (AG (Aa c)).map (λb=>D.bl (Ar b f d).isSome)=_
  rw[aR];show some (D.bl (Ar (ck c) f d).isSome)=_;rw[e];by_cases b:c∈pl a<;>simp[b]
 ·intro b
  show im (Ar (ck c) f d)=_;rw[e,if_pos b];simp[im,ah]
def gE(l:List Int):D.depL (l.map D.int)<=29:=Aw (bM (n:=0) (f:=D.int) (λ_=>Al 0) l) 'z'
def cX(l:List Int):D.immL (l.map D.int)=true:=am (λ_=>ah) l
def vv{l:List Int}{k:Nat}(h:k<=l.length):Ez (some (k:Int)) none (.lst (l.map D.int))=some (.lst ((l.drop k).map D.int)):=by
 show (if D.immL (l.map D.int)=true then some (D.lst (L2.cutD (l.map D.int) (some (k:Int)) none)) else none)=_;rw[if_pos (cX l)];unfold L2.cutD;rw[HT.sIx_nat,HT.sIx_none,Ai,DC h,DR (by rw[En,Ai];exact Al _),List.map_drop]
def vx{l:List Int}{k:Nat}:Ez none (some (k:Int)) (.lst (l.map D.int))=some (.lst ((l.take k).map D.int)):=by
 show (if D.immL (l.map D.int)=true then some (D.lst (L2.cutD (l.map D.int) none (some (k:Int)))) else none)=_;rw[if_pos (cX l),kO,List.map_take]
def vy{a b:List Int}(h:a.length+b.length<=1000):AJ (.lst (a.map D.int)) (.lst (b.map D.int))=some (.lst ((a++b).map D.int)):=by
 rw[vp (cX a) (cX b) (by rw[Ai,Ai];exact h),A7]
theorem mP:∀l:List Int,EN (l.map D.int)=some l
 | []=>rfl
 | a::l=>by
   show (EN (l.map D.int)).map (λr=>a::r)=_;rw[mP l];rfl
def vz:(CZ ps r).length<=r.length:=by
 unfold CZ;rw[Ai];exact Fd _ _
def GK:List D->Ap Unit D:=Bj 6 2 (zv8 GI IM ER).1
def iB{b e:Int}(i:Cfg b e h f)(I:0<=b/\b<=9)(M:0<=e/\e<=9)(L:AS f=true->GP b e h (pl f))(g:Q (Du f (freeC b e h [])) ()):Ab (GK [Am b e h f,AB f]) Q E:=by
 refine aK rfl 'z' ?_;unfold zv8;dsimp only;have u:∀l:List Ae,D.immL (l.map Aa)=true:=λl=>am ao l
 have C:(freeC b e h []).Nodup:=fJ;have Y:(freeC b e h []).length<=81:=fH I.2 M.2;have B:∀c∈freeC b e h [],c∉h:=λc i=>(ip.mp i).2
 have j:AS f=true->∀c∈pl f,c∈freeC b e h []:=λz=>(L z).2
 simp_all!;simp!;refine ms i.few ?_;unfold Du at g;cases m:AS f with
 | false=>
   rw[m] at g;simp!;exact g
 | true=>
   rw[m,if_pos rfl] at g;simp!;simp_all!;simp!;refine vo i.sh I M ?_;have hn:=(L m).1;have j:=j m;generalize freeC b e h []=F at *;unfold GJ;cases q:FZ F with
   | none=>
     rw[q] at g;simp!;simp_all!;simp! [Fv,D.isNon];exact g
   | some r=>
     rw[q] at g;have g:Q (.tup ((rot (CZ (pl f) r) ((CZ (pl f) r).idxOf 0)).map D.int)) ():=g;obtain⟨r1,r2,r3⟩:=mK C q;have rl:r.length<=81:=Aw (cV r3 r2) Y;have n:CZ (pl f) r≠[]->(0:Int)∈CZ (pl f) r:=ve C q j;have O:=vz (ps:=pl f) (r:=r);simp! [u];simp_all!;simp! [Fv,D.isNon];simp_all!;simp!;refine fy i λd J=>?_
     have A:=J.flat;simp! [A];simp_all!;simp!;refine cc (xs:=r) (a:=Aa) (y:=λc=>.int (Cr c (pl f))) (p:=λc=>decide (c∈pl f)) (λZ=>∃z,Z=[z,Sl.bor d]) {_,rfl} (λc i Z hI148=>?_) (aU 'o') ?_
     ·obtain⟨z,N⟩:=hI148
      subst N;obtain⟨l1,l2⟩:=vt m hn J (B c (r2 c i));refine{_,rfl,{_,rfl},?_,λW=>?_}
      ·simp! [l1]
      ·simp! [l2 (of_decide_eq_true W)]
     ·have P:(r.filter λc=>decide (c∈pl f)).map (λc=>D.int (Cr c (pl f)))=(CZ (pl f) r).map D.int:=by
       unfold CZ;rw[Cf];rfl
      rw[P];generalize CZ (pl f) r=o at *;simp! [cX];simp_all!;have o0:B6 []=some (.lst []):=rfl;have v:A6 []=some (.tup []):=rfl;simp! [o0,dD (gE o)];by_cases x:o=[]
      ·subst x
       have s:decide (([]:List Int).map D.int=[])=true:=rfl;rw[s];simp! [v];exact g
      ·have s:decide (o.map D.int=[])=false:=by simp[x]
       have n:=n x;have T:o.idxOf 0<o.length:=List.idxOf_lt_length_iff.mpr n;have G:GA (o.map D.int) (.int 0)=some (.int (o.idxOf 0:Nat)):=by
        show (EN (o.map D.int)).bind (λns=>if ns.length<=1000/\(0:Int)∈ns then some (D.int (ns.idxOf 0:Nat)) else none)=_;rw[mP,EE,if_pos {'o',n}]
       rw[s];simp!;simp_all!;simp! [t5,G];refine{_,rfl,_,G,?_};have U:∀l:List Int,BK [.lst (l.map D.int)]=some (.tup (l.map D.int)):=λl=>by simp[BK,cX]
       have R:AJ (.lst ((o.drop (o.idxOf 0)).map D.int)) (.lst ((o.take (o.idxOf 0)).map D.int))=some (.lst ((rot o (o.idxOf 0)).map D.int)):=vy (by rw[En,B9];omega);simp! [vv (Bw T),vx,R,U,cX];exact g
def CG:List Int->Nat
 | []=>0
 | x::l=>(l.filter λy=>decide (y<x)).length+CG l
theorem mR:∀(l:List Int) (k:Nat) (x:Int),l[k]?=some x->CG (l.drop k)=((l.drop (k+1)).filter λy=>decide (y<x)).length+CG (l.drop (k+1))
 | [],k,x,h=>by simp at h
 | a::l,0,x,h=>by cases h;rfl
 | a::l,k+1,x,h=>mR l k x h
def C2(l:List Int):List D:=l.map D.int
def mS(l:List Int):D.immL (C2 l)=true:=am (λ_=>ah) l
def IN:List D->Ap Unit D:=Bj 4 1 zl4.1
def vA{l:List Int}(b:l.length<=81)(m:Q (.int (CG l:Nat)) ()):Ab (IN [.lst (C2 l)]) Q E:=by
 refine aK rfl 'z' ?_;unfold zl4;dsimp only;have c:He 0 [.lst (C2 l)]=some (D5 0 (C2 l)):=rfl;have o:(C2 l).length=l.length:=Ai ..;simp_all!;simp!;simp_all!;simp! [c];refine aO (λi Z b=>∃x y:Sl,Z=[Sl.bor (.lst (C2 l)),.bor (.int ((CG l:Int)-CG (l.drop i))),x,y]) 0 {_,_,by rw[Fp,Int.sub_self]} (λi e Z b n f P g=>?_) λZ b f=>?_
 ·obtain⟨j,h,c⟩:=f
  obtain⟨d,b,rfl⟩:=gr n;unfold C2 at b;rw[AX] at b;cases q:l[i]? with
  | none=>rw[q] at b;cases b
  | some x=>
    rw[q] at b;cases b;subst c;have d:i<l.length:=(Bd.mp q).1;have b:Ez (some (((i+0:Nat):Int)+1)) none (.lst (C2 l))=some (.lst (C2 (l.drop (i+1)))):=by
     have e:(((i+0:Nat):Int)+1)=((i+1:Nat):Int):=by omega
     rw[e];show (if D.immL (C2 l)=true then some (D.lst (L2.cutD (C2 l) (some ((i+1:Nat):Int)) none)) else none)=_;rw[if_pos (mS l)];unfold L2.cutD;rw[HT.sIx_nat,HT.sIx_none,DC (by omega:i+1<=(C2 l).length),DR (by rw[En];exact Al _)];unfold C2;rw[List.map_drop]
    refine{_,rfl,?_};simp! [AJ,AD,b];refine cc (xs:=l.drop (i+1)) (a:=D.int) (y:=D.int) (p:=λy=>decide (y<x)) (λZ=>∃z,Z=[z,Sl.bor (.int x)]) {_,rfl} (λy b Z hI149=>?_) (aU (by rw[En];omega)) ?_
    ·obtain⟨z,c⟩:=hI149
     subst c;refine{_,rfl,{_,rfl},?_,λ_=>?_}
     ·simp! [AD]
     ·simp!
    ·have b:BF [.lst (((l.drop (i+1)).filter λy=>decide (y<x)).map D.int)]=some (.int (((l.drop (i+1)).filter λy=>decide (y<x)).length:Nat)):=by
      simp[BF]
     simp! [b];refine{_,_,rfl,rfl,g _ _ {.bor (.int ((i+0:Nat):Int)),.bor (.int x),?_}};have b:0+i+1=i+1:=by omega
     rw[Aq,mR l i x q];have b:(CG l:Int)-((((l.drop (i+1)).filter λy=>decide (y<x)).length+CG (l.drop (i+1)):Nat):Int)+(((l.drop (i+1)).filter λy=>decide (y<x)).length:Nat)=(CG l:Int)-CG (l.drop (i+1)):=by omega
     rw[b]
 ·obtain⟨j,h,c⟩:=f
  subst c;rw[gt,o,Aq,List.drop_length];have b:(CG l:Int)-(CG []:Nat)=(CG l:Nat):=by show (CG l:Int)-((0:Nat):Int)=_;omega
  rw[b];simp!;exact m
def F1(sh:List Ae)(ts:List Tr)(c:Ae):Int:=(BG (BZ sh ts) c).getD ts.length
def EU(wide high:Int)(sh:List Ae)(ts:List Tr):List Ae:=freeC wide high sh ts
def Cs(wide high:Int)(sh:List Ae)(ts:List Tr):D:=match EU wide high sh ts with
 | [e]=>if AS ts then .int (((CG ((freeC wide high sh []).map (F1 sh ts)):Int)+e.1+e.2) % 2) else .non
 | _=>.non
def GL:List D->Ap Unit D:=Bj 7 2 (xw7 GG GI ER GH IN).1
open H in
def iC{b f:Int}(o:Cfg b f sh ts)(n:0<=b/\b<=9)(q:0<=f/\f<=9)(u:Q (Cs b f sh ts) ()):Ab (GL [Am b f sh ts,AB ts]) Q E:=by
 refine aK rfl 'z' ?_;unfold xw7;dsimp only;have r:∀l:List Ae,D.immL (l.map Aa)=true:=λl=>am ao l
 have T:BF [.lst ((freeC b f sh ts).map Aa)]=some (.int ((freeC b f sh ts).length:Nat)):=by simp[BF]
 have m:(∀e,EU b f sh ts≠[e])\/AS ts=false->Cs b f sh ts=.non:=λh=>by
  unfold Cs;split
  ·rename_i e g
   rcases h with h | h
   ·exact absurd g (h e)
   ·rw[h];rfl
  ·rfl
 simp_all!;simp!;refine mq o n q ?_;simp! [r];simp_all!;simp!;refine ms o.few ?_;simp!;cases G:AS ts with
 | false=>
   simp!;rw[<-m (.inr G)];exact u
 | true=>
   simp! [T,aS];by_cases x:(freeC b f sh ts).length=1
   ·obtain⟨e,g⟩:=List.length_eq_one_iff.mp x
    have s:(((freeC b f sh ts).length:Int) == 1)=true:=by rw[x];rfl
    rw[s];simp!;simp_all!;simp!;refine fy o λd C=>?_
    have R:=C.flat;simp! [R];simp_all!;simp!;refine mr o.sh n q ?_;obtain⟨F,B,rfl,Y,W,U,N⟩:=C;have A:BF [AB ts]=some (.int (ts.length:Nat)):=by simp[BF,AB]
    have O:∀c:Ae,E7 (.dct (.non::F) B) (Aa c) (.int (ts.length:Nat))=some (.int (F1 sh ts c)):=λc=>mi N
    simp!;refine cc (xs:=freeC b f sh []) (a:=Aa) (y:=λc=>.int (F1 sh ts c)) (p:=λ_=>true) (λZ=>∃z,Z=[z,Sl.bor (.dct (.non::F) B),.bor (AB ts)]) {_,rfl} (λc P Z hI150=>?_) (aU (by have:=fH (sh:=sh) (ts:=[]) n.2 q.2;omega)) ?_
    ·obtain⟨z,J⟩:=hI150
     subst J;refine{_,rfl,{_,rfl},?_,λ_=>?_}
     ·simp!
     ·simp! [A]
      refine{_,_,rfl,?_};simp! [O]
    ·have I:((freeC b f sh []).filter λ_=>true).map (λc=>D.int (F1 sh ts c))=C2 ((freeC b f sh []).map (F1 sh ts)):=by
      rw[List.filter_eq_self.mpr (λ_ _=>rfl)];unfold C2;rw[Cf];rfl
     rw[I];simp! [mS];simp_all!;have M:Au (.lst ((freeC b f sh ts).map Aa)) (.int 0)=some (Aa e):=by rw[g];exact(bF (l:=[Aa e]) (v:=0) (ao e) (EW 0) rfl).1
     simp! [M];refine{_,rfl,?_};simp!;refine vA (by rw[Ai];exact fH n.2 q.2) ?_;simp! [AJ,AD];have es:Cs b f sh ts=.int (((CG ((freeC b f sh []).map (F1 sh ts)):Int)+e.1+e.2) % 2):=by
      unfold Cs EU;rw[g,G];rfl
     have L:∀a:Int,iOp (λ_ j=>0<j) (λi j=>D.int (i % j)) (.int a) (.int 2)=some (.int (a % 2)):=λa=>gM 'z'
     rw[L];simp!;rw[<-es];exact u
   ·have s:(((freeC b f sh ts).length:Int) == 1)=false:=by rw[beq_eq_false_iff_ne];omega
    rw[s];simp!;rw[<-m (.inl λe g=>x (by show (EU b f sh ts).length=1;rw[g];rfl))];exact u
structure IP(ts:List Tr):Prop where
 few:ts.length<=12
 wh:∀t∈ts,1<=t.w/\t.w<=9/\1<=t.h/\t.h<=9
def JM(t u:Tr):Bool:=decide (t.x<u.x)&&(decide (t.y<u.y+u.h)&&decide (u.y<t.y+t.h))
def JN(t u:Tr):Bool:=decide (t.y<u.y)&&(decide (t.x<u.x+u.w)&&decide (u.x<t.x+t.w))
instance ahead(t u:Tr):Bool:=if t.ways=u.ways then (if t.ways = "row" then JM t u else if t.ways = "column" then JN t u else false) else false
def IQ:List D->Ap Unit D:=Bj 4 4 xf7.1
def mU{a b c d:Int}(e:Q (.bl (decide (a<c+d)&&decide (c<a+b))) ()):Ab (IQ [.int a,.int b,.int c,.int d]) Q E:=by
 refine aK rfl 'z' ?_;unfold xf7;dsimp only;simp! [AJ,AD];by_cases f:a<c+d<;>by_cases g:c<a+b<;>simp[f,g,aq] at e ⊢<;>exact e
def Hz:List D->Ap Unit D:=Bj 6 4 (zx1 IQ).1
def vB{e d:Int}{a b:Nat}(j:l[a]?=some t)(h:l[b]?=some u)(c:Q (.bl (ahead t u)) ()):Ab (Hz [Am e d q l,AB l,.int a,.int b]) Q E:=by
 refine aK rfl 'z' ?_;unfold zx1;dsimp only;have g:∀t:Tr,Au t.kind (.int 2)=some (.str t.ways):=λt=>rfl
 have p:∀t:Tr,Au t.kind (.int 0)=some (.int t.w):=λt=>rfl
 have a:∀t:Tr,Au t.kind (.int 1)=some (.int t.h):=λt=>rfl
 have o:∀t:Tr,Au t.place (.int 0)=some (.int t.x):=λt=>rfl
 have n:∀t:Tr,Au t.place (.int 1)=some (.int t.y):=λt=>rfl
 have b:∀t:Tr,t.kind.flat=false:=λt=>rfl
 rw  [ax];simp! [hall3',hU j,hU h,b];rw  [ax];simp! [g,cj];unfold ahead at c;by_cases b:t.ways=u.ways
 ·rw[if_pos b] at c
  have i:(t.ways == u.ways)=true:=by rw[b];exact ce _
  rw[i];simp!;rw  [ax];simp! [g,cj];by_cases f:t.ways = "row"
  ·rw[if_pos f] at c
   have m:(t.ways == ("row" : Str))=true:=by rw[f];exact ce _
   rw[m];simp! [AB,cS j,cS h,o,n,a,AD];unfold JM at c;by_cases a:t.x<u.x
   ·rw[aV a] at c ⊢
    simp only[wp_ok,wp_bad,wp_some,wp_none,wp_sNil,wp_sSet,wp_sSetB,wp_sAsg,wp_sPar,wp_sIf,wp_sRet,wp_sRetV,e6,wp_sMt,e8,e9,fe,wp_sBad,wp_sAug,wp_fC,wp_fV,wp_fVk,wp_fI,wp_f2,wp_fA,wp_aNil,wp_aCons,wp_fCall,wp_fCallS,ff,wp_fAndV,eZ,wp_fNotV,wp_fIfE,wp_fNeg,wp_fCut,wp_pNo,wp_pSo,wp_iSeq,wp_iArgs,wp_fComp,wp_fB,wp_fAnd,wp_fOr,wp_fNot,wp_fTrue,wp_sPar3,wp_sItem,wp_sDPut,wp_fChain,wp_fDisp,wp_sTab2,wp_fGet,wp_sFor,wp_fP,wp_aP,wp_tP,own?,frz,frz1,AO,gN,gT,Bp,BR,D.seq?,D.immL,az,aA,aB,aC,aG,aD,aE,ah,ay,aq,aH,ai,Bh,Bi,Bu,D.bl.injEq,D.int.injEq,D.str.injEq,Ga,Be,Da,Aq,if_true,if_false,Bool.and_true,Bool.true_and,C9,BV,EE,Option.some.injEq,exists_eq_left',exists_eq_left,exists_eq_right,true_or,or_true,true_and,and_true,Dl,FN,Option.some_or,FM,F8,Dj,List.cons_append,Fm,g0,gS,s0,sS,lC,lN,rd,putN,put,im,kp,vr,cn,o2,cs,nl,o1,ti,tb,boS,dbb,Nat.reduceAdd,Nat.reduceLT,Nat.reduceLeDiff,Nat.reduceSub,reduceIte] at c ⊢;refine mU ?_;exact{.inl aq,c}
   ·rw[aI a] at c ⊢
    simp only[wp_ok,wp_bad,wp_some,wp_none,wp_sNil,wp_sSet,wp_sSetB,wp_sAsg,wp_sPar,wp_sIf,wp_sRet,wp_sRetV,e6,wp_sMt,e8,e9,fe,wp_sBad,wp_sAug,wp_fC,wp_fV,wp_fVk,wp_fI,wp_f2,wp_fA,wp_aNil,wp_aCons,wp_fCall,wp_fCallS,ff,wp_fAndV,eZ,wp_fNotV,wp_fIfE,wp_fNeg,wp_fCut,wp_pNo,wp_pSo,wp_iSeq,wp_iArgs,wp_fComp,wp_fB,wp_fAnd,wp_fOr,wp_fNot,wp_fTrue,wp_sPar3,wp_sItem,wp_sDPut,wp_fChain,wp_fDisp,wp_sTab2,wp_fGet,wp_sFor,wp_fP,wp_aP,wp_tP,own?,frz,frz1,AO,gN,gT,Bp,BR,D.seq?,D.immL,az,aA,aB,aC,aG,aD,aE,ah,ay,aq,aH,ai,Bh,Bi,Bu,D.bl.injEq,D.int.injEq,D.str.injEq,Ga,Be,Da,Aq,if_true,if_false,Bool.and_true,Bool.true_and,C9,BV,EE,Option.some.injEq,exists_eq_left',exists_eq_left,exists_eq_right,true_or,or_true,true_and,and_true,Dl,FN,Option.some_or,FM,F8,Dj,List.cons_append,Fm,g0,gS,s0,sS,lC,lN,rd,putN,put,im,kp,vr,cn,o2,cs,nl,o1,ti,tb,boS,dbb,Nat.reduceAdd,Nat.reduceLT,Nat.reduceLeDiff,Nat.reduceSub,reduceIte,Bool.false_and] at c ⊢;exact c
  ·rw[if_neg f] at c
   have m:(t.ways == ("row" : Str))=false:=beq_eq_false_iff_ne.mpr f;rw[m];simp!;rw  [ax];simp! [g,cj];by_cases f:t.ways = "column"
   ·rw[if_pos f] at c
    have g:(t.ways == ("column" : Str))=true:=by rw[f];exact ce _
    rw[g];simp! [AB,cS j,cS h,o,n,p,AD];unfold JN at c;by_cases a:t.y<u.y
    ·rw[aV a] at c ⊢
     simp only[wp_ok,wp_bad,wp_some,wp_none,wp_sNil,wp_sSet,wp_sSetB,wp_sAsg,wp_sPar,wp_sIf,wp_sRet,wp_sRetV,e6,wp_sMt,e8,e9,fe,wp_sBad,wp_sAug,wp_fC,wp_fV,wp_fVk,wp_fI,wp_f2,wp_fA,wp_aNil,wp_aCons,wp_fCall,wp_fCallS,ff,wp_fAndV,eZ,wp_fNotV,wp_fIfE,wp_fNeg,wp_fCut,wp_pNo,wp_pSo,wp_iSeq,wp_iArgs,wp_fComp,wp_fB,wp_fAnd,wp_fOr,wp_fNot,wp_fTrue,wp_sPar3,wp_sItem,wp_sDPut,wp_fChain,wp_fDisp,wp_sTab2,wp_fGet,wp_sFor,wp_fP,wp_aP,wp_tP,own?,frz,frz1,AO,gN,gT,Bp,BR,D.seq?,D.immL,az,aA,aB,aC,aG,aD,aE,ah,ay,aq,aH,ai,Bh,Bi,Bu,D.bl.injEq,D.int.injEq,D.str.injEq,Ga,Be,Da,Aq,if_true,if_false,Bool.and_true,Bool.true_and,C9,BV,EE,Option.some.injEq,exists_eq_left',exists_eq_left,exists_eq_right,true_or,or_true,true_and,and_true,Dl,FN,Option.some_or,FM,F8,Dj,List.cons_append,Fm,g0,gS,s0,sS,lC,lN,rd,putN,put,im,kp,vr,cn,o2,cs,nl,o1,ti,tb,boS,dbb,Nat.reduceAdd,Nat.reduceLT,Nat.reduceLeDiff,Nat.reduceSub,reduceIte] at c ⊢;refine mU ?_;exact{.inl aq,c}
    ·rw[aI a] at c ⊢
     simp only[wp_ok,wp_bad,wp_some,wp_none,wp_sNil,wp_sSet,wp_sSetB,wp_sAsg,wp_sPar,wp_sIf,wp_sRet,wp_sRetV,e6,wp_sMt,e8,e9,fe,wp_sBad,wp_sAug,wp_fC,wp_fV,wp_fVk,wp_fI,wp_f2,wp_fA,wp_aNil,wp_aCons,wp_fCall,wp_fCallS,ff,wp_fAndV,eZ,wp_fNotV,wp_fIfE,wp_fNeg,wp_fCut,wp_pNo,wp_pSo,wp_iSeq,wp_iArgs,wp_fComp,wp_fB,wp_fAnd,wp_fOr,wp_fNot,wp_fTrue,wp_sPar3,wp_sItem,wp_sDPut,wp_fChain,wp_fDisp,wp_sTab2,wp_fGet,wp_sFor,wp_fP,wp_aP,wp_tP,own?,frz,frz1,AO,gN,gT,Bp,BR,D.seq?,D.immL,az,aA,aB,aC,aG,aD,aE,ah,ay,aq,aH,ai,Bh,Bi,Bu,D.bl.injEq,D.int.injEq,D.str.injEq,Ga,Be,Da,Aq,if_true,if_false,Bool.and_true,Bool.true_and,C9,BV,EE,Option.some.injEq,exists_eq_left',exists_eq_left,exists_eq_right,true_or,or_true,true_and,and_true,Dl,FN,Option.some_or,FM,F8,Dj,List.cons_append,Fm,g0,gS,s0,sS,lC,lN,rd,putN,put,im,kp,vr,cn,o2,cs,nl,o1,ti,tb,boS,dbb,Nat.reduceAdd,Nat.reduceLT,Nat.reduceLeDiff,Nat.reduceSub,reduceIte,Bool.false_and] at c ⊢;exact c
   ·rw[if_neg f] at c
    have g:(t.ways == ("column" : Str))=false:=beq_eq_false_iff_ne.mpr f;rw[g];simp!;exact c
 ·rw[if_neg b] at c
  have i:(t.ways == u.ways)=false:=beq_eq_false_iff_ne.mpr b;rw[i];simp!;exact c
def Ec(p:Nat×Nat):D:=.tup [.int p.1,.int p.2]
def dE(p:Nat×Nat):(Ec p).imm=true:=id rfl
def GM(ts:List Tr)(a b:Nat):Bool:=match ts[a]?,ts[b]? with
 | some t,some u=>ahead t u
 | _,_=>false
def vC{a b:Nat}(e:c[a]?=some t)(d:c[b]?=some u):GM c a b=ahead t u:=by unfold GM;rw[e,d]
def Fb(ts:List Tr)(a n:Nat):List (Nat×Nat):=((List.range n).filter λb=>GM ts a b).map λb=>(a,b)
def Dv(ts:List Tr)(n:Nat):List (Nat×Nat):=(List.range n).flatMap λa=>Fb ts a ts.length
def vD{a n:Nat}:Fb b a (n+1)=Fb b a n++if GM b a n=true then [(a,n)] else []:=by
 unfold Fb;rw[FJ,List.filter_append,A7];by_cases h:GM b a n=true<;>simp[h]
def mV{n:Nat}:Dv a (n+1)=Dv a n++Fb a n a.length:=by
 unfold Dv;rw[FJ,Fg];simp
def iD{a n:Nat}:(Fb ts a n).length<=n:=by
 unfold Fb;rw[Ai];exact Aw (Fd _ _) 'd'
theorem mW(h:ts.length<=12):∀n,(Dv ts n).length<=12*n
 | 0=>by simp[Dv]
 | n+1=>by
   rw[mV,A4];have b:=mW h n;have c:=iD (ts:=ts) (a:=n) (n:=ts.length);omega
def F2:List D->Ap Unit D:=Bj 4 2 (yu1 Hz).1
def iE{b c:Int}(e:IP ts)(s:Q (.lst ((Dv ts ts.length).map Ec)) ()):Ab (F2 [Am b c m ts,AB ts]) Q E:=by
 have d:=@aK 4 2 (yu1 Hz).1 [Am b c m ts,AB ts] Q E 'd' 'z';unfold F2;with_reducible refine d ?_
 clear d;unfold yu1;dsimp only;have o:=e.few;simp_all!;simp! [bn];simp_all!;simp! [AB,BF,Ai];rw[ba 'o' 'o'];refine aO (λi Z f=>∃l,Z=[Sl.bor (Am b c m ts),.bor (AB ts),.own (.lst ((Dv ts i).map Ec)),l]) 0 {_,rfl} (λi e Z f j g P v=>?_) λZ f g=>?_
 ·obtain⟨l,h⟩:=g
  obtain⟨rfl,d⟩:=bg j;subst h;have d:i<ts.length:=by omega
  obtain⟨t,p⟩:∃t,ts[i]?=some t:={_,Ba d};have j:(0:Int)+(i:Int)=(i:Int):=by omega
  rw[Aq];refine{_,rfl,?_};simp! [AF,am dE,AB,BF,Ai];rw[ba 'o' 'o',j];refine di (λn e Z f=>∃x,e=(Fb ts i n).map Ec/\Z=[x,Sl.bor (.int i),.bor (Am b c m ts),.bor (AB ts)]) 0 {_,rfl,rfl} (λj d e Z f r g=>?_) λe Z f g=>?_
  ·obtain⟨x,d,e⟩:=g
   obtain⟨rfl,q⟩:=bg r;subst d e;have q:j<ts.length:=by omega
   obtain⟨u,f⟩:∃u,ts[j]?=some u:={_,Ba q};have r:(0:Int)+(j:Int)=(j:Int):=by omega
   have q:=iD (ts:=ts) (a:=i) (n:=j);rw[Aq,r,vD,vC p f];refine{_,rfl,?_};simp!;refine vB p f ?_;cases j:ahead t u
   ·simp!
    simp
   ·simp! [aW]
    refine{lt_size (by rw[Ai];omega),_,?_,rfl};rw[A7];rfl
  ·obtain⟨x,d,e⟩:=g
   subst d;rw[Aq,bq,CH];have e:=mW o i;have d:=iD (ts:=ts) (a:=i) (n:=ts.length);refine{_,ed (am dE _) (by rw[Ai,Ai];omega),v _ _ {.bor (.int i),?_}};rw[Aq,mV,A7];rfl
 ·obtain⟨l,h⟩:=g
  subst h;rw[bq,Aq,CH];simp! [am dE];exact s
def IR:List D->Dr->Ap Dr D:=CU 9 2 (zy2 By).1
instance Tr.wq(t:Tr):Int×Int×Int×Int:=(t.w,t.h,t.x,t.y)
def vE{c d:Int}{o:List Ae}{g:List Tr}{x:Dr}{Q:D->Dr->Prop}{E:AM->Dr->Prop}(f:IP g)(F:∀t∈g,Bo t.ways)(a:x.2<2 ^ 39)(z:∀(a:List Tr) b,a.map Tr.wq=g.map Tr.wq->(∀j∈a,Bo j.ways)->b.2<=x.2+30->Q (Am c d o a) b):Ab (IR [Am c d o g] x) Q E:=by
 refine bU rfl 'z' ?_;unfold zy2;dsimp only;have e:=f.few;simp_all!;simp! [Am];simp_all!;simp! [gK];refine ar 'z' 'z' 'o' λh e i l m=>?_
 obtain⟨f,i,n⟩:∃f:Str,Au (.lst [.str "row",.str "column"]) (.int h)=some (.str f)/\Bo f:=by
  rcases (show h=0\/h=1 by omega) with r | r<;>subst r
  ·exact{_,rfl,.inr (.inl rfl)}
  ·exact{_,rfl,.inr (.inr (.inl rfl))}
 simp! [i];simp_all!;simp! [bn];simp_all!;simp!;refine aO (λi Z b=>∃(a:List Tr) (y:Sl),Z=[Sl.hnd,.bor (Am c d o g),.bor (.int c),.bor (.int d),.bor (.tup (o.map Aa)),.bor (.tup (g.map Tr.kind)),.bor (.str f),.own (.lst (a.map Tr.kind)),y]/\a.map Tr.wq=(g.take i).map Tr.wq/\(∀j∈a,Bo j.ways)/\b.2<=e.2+i) 0 {[],_,rfl,'d',λj h=>absurd h 'd','o'} (λi e Z b m u P C=>?_) λZ b u=>?_
 ·obtain⟨a,y,s,l,p,v⟩:=u
  rw[AX] at m;cases q:g[i]? with
  | none=>rw[q] at m;cases m
  | some t=>
    rw[q] at m;cases m;subst s;rw[Aq] at l v;have e:i<g.length:=(Bd.mp q).1;have e:a.length=i:=by
     have:=congrArg List.length l;rw[Ai,Ai,B9] at this;omega
    have m:Ez none (some 2) t.kind=some (.tup [.int t.w,.int t.h]):=rfl;have A:Ez (some 3) none t.kind=some (.tup [.int t.s]):=rfl;have i:Au t.kind (.int 2)=some (.str t.ways):=rfl;refine{_,rfl,?_};simp! [AF,am bz,m,i];have e:B6 [.str f,.str f,.str t.ways]=some (.lst [.str f,.str f,.str t.ways]):=ci rfl 'd';simp! [e];refine ar 'z' 'z' 'o' λi e B m E=>?_
    obtain⟨e,B,m⟩:∃e:Str,Au (.lst [.str f,.str f,.str t.ways]) (.int i)=some (.str e)/\Bo e:=by
     rcases (show i=0\/i=1\/i=2 by omega) with r | r | r<;>subst r
     ·exact{_,rfl,n}
     ·exact{_,rfl,n}
     ·exact{_,rfl,F t (Ct q)}
    have f:A6 [.str e]=some (.tup [.str e]):=dj rfl 'd';have o1:AJ (.tup [.int t.w,.int t.h]) (.tup [.str e])=some (.tup [.int t.w,.int t.h,.str e]):=rfl;have o2:AJ (.tup [.int t.w,.int t.h,.str e]) (.tup [.int t.s])=some (.tup [.int t.w,.int t.h,.str e,.int t.s]):=rfl;simp! [B,f,o1,A,o2];refine{_,bV rfl (by rw[Ai];omega),C _ _ {a++[{ t with ways:=e }],.bor t.kind,by rw[A7];rfl,?_,λj e=>?_,'o'}}
    ·rw[Aq,Cu,q,A7,A7,l]
     rfl
    ·rcases Br.mp e with h | h
     ·exact p j h
     ·rw[A8.mp h]
      exact m
 ·obtain⟨a,y,s,l,p,v⟩:=u
  subst s;rw[Aq,Ai] at v;rw[Aq,Ai,Ck] at l;simp! [BK,am bz,ee,am ao];exact z a b l p 'o'
def vF:(D0 T k\/ck c=k)↔D0 (T++[c]) k:=by
 simp only[D0,Br,A8];constructor
 ·rintro (⟨d,a,b⟩ | h)
  ·exact{d,.inl a,b}
  ·exact{c,.inr rfl,h}
 ·rintro ⟨d,a | a,b⟩
  ·exact .inl ⟨d,a,b⟩
  ·subst a;exact .inr b
def IS:List D->Ap Unit D:=Bj 10 2 (zu6 DQ).1
def mX{f g:Int}(hc:Cfg f g m l)(O:ps.length=l.length)(hq:∀b,(b=true->AS l=true->GP f g m ps)->Q (.bl b) ()):Ab (IS [Am f g m l,.lst (ps.map Aa)]) Q E:=by
 refine aK rfl 'z' ?_;unfold zu6;dsimp only;have few:=hc.few;simp_all!;simp! [Am];simp_all!;simp!;rw  [ax];simp! [Iw];refine hH (λi Z n=>∃(d:D) (T:List Ae) (Y U u:Sl),Z=[Sl.bor (Am f g m l),.bor (.lst (ps.map Aa)),.bor (.int f),.bor (.int g),.bor (.tup (m.map Aa)),.bor (.tup (l.map Tr.kind)),.own d,Y,U,u]/\Holds d (81*i) (D0 T)/\(AS l=true->T=ps.take i/\GP f g m T)) 0 {_,[],_,_,_,rfl,Holds.nil.imp (Al _) λk=>by simp[D0],λ_=>{'d',by simp[GP]}} (λi e Z n A B P pn pr=>?_) λZ n B=>?_
 ·obtain⟨d,T,Y,U,u,s,o,r⟩:=B
  obtain⟨k,pl',G,L,rfl⟩:=ku A;rw[AX] at G L;cases q:l[i]? with
  | none=>rw[q] at G;cases G
  | some t=>
    cases q2:ps[i]? with
    | none=>rw[q2] at L;cases L
    | some p=>
      rw[q] at G;rw[q2] at L;cases G;cases L;subst s;rw[Aq] at o r;have hil:i<l.length:=(Bd.mp q).1;obtain⟨q1,q3,q4,q5⟩:=hc.wh t (Ct q);have h8:(AA t.w t.h p).length<=81:=bO q3 q5;refine{_,rfl,?_};simp!;refine hO (p:=p) 'o' 'o' 'o' 'o' ?_;simp!;refine hH (λj Z n=>∃(d:D) (T:List Ae) (u:Sl),Z=[Sl.bor (Am f g m l),.bor (.lst (ps.map Aa)),.bor (.int f),.bor (.int g),.bor (.tup (m.map Aa)),.bor (.tup (l.map Tr.kind)),.own d,.bor t.kind,.bor (Aa p),u]/\Holds d (81*i+j) (D0 T)/\(AS l=true->T=ps.take i++(AA t.w t.h p).take j/\GP f g m T)) 0 {_,_,_,rfl,o,λz=>by rw[List.take_zero,C8];exact r z} (λj e Z n A B P2 N W=>?_) λZ n B=>?_
      ·obtain⟨d,T,u,s,o,r⟩:=B
       rw[AX] at A;cases q6:(AA t.w t.h p)[j]? with
       | none=>rw[q6] at A;cases A
       | some c=>
         rw[q6] at A;cases A;subst s;rw[Aq] at o r;have hj:j<(AA t.w t.h p).length:=(Bd.mp q6).1;have c0:Au (Aa c) (.int 0)=some (.int c.1):=rfl;have c1:Au (Aa c) (.int 1)=some (.int c.2):=rfl;have no:P2 (.rt (.bl false)) n:=W _ _ (pr _ _ (hq false λz=>nomatch z));have ic:oIn false (Aa c) (.tup (m.map Aa))=some (.bl (decide (c∈m))):=(hT (neg:=false)).1;have hin:=(o.in_ (aR c) (b:=decide (c∈T)) (by rw[decide_eq_true_eq,l9])).1;have R:c∉T->c∈freeC f g m []->AS l=true->T++[c]=ps.take i++(AA t.w t.h p).take (0+j+1)/\GP f g m (T++[c]):=λI hF z=>by
          obtain⟨y,F,e3⟩:=r z;refine{by rw[Aq,Cu,q6,y,Cd];rfl,El.mpr {F,'d',λa ha b hb e=>I (by rw[<-A8.mp hb,<-e];exact ha)},λx hx=>?_};rcases Br.mp hx with w | w
          ·exact e3 x w
          ·rw[A8.mp w];exact hF
         refine{_,rfl,?_};rw  [ax];simp! [hin];by_cases I:c∈T
         ·rw[aV I]
          simp!;exact no
         ·rw[aI I]
          simp! [ic];by_cases C:c∈m
          ·rw[aV C]
           simp!;exact no
          ·rw[aI C]
           simp! [c0,c1,AD];by_cases J:0<=c.1<;>by_cases h2:c.1<f<;>by_cases h3:0<=c.2<;>by_cases h4:c.2<g<;>simp[J,h2,h3,h4,aq]<;>first | exact no | (obtain⟨ks,vs,rfl,k1,k2,k3,k4⟩:=id o;exact{ks,vs,by simp?! [BL,k1],ck c,aR c,dZ 'o',N _ _ {_,T++[c],_,rfl,(o.put (k:=ck c) (v:=.bl true) aq).imp 'o' λk=>vF,R I (ip.mpr {⟨J,h2,h3,h4⟩,C})}})
      ·obtain⟨d,T,u,s,o,r⟩:=B
       subst s;rw[Aq,Ai] at o r;refine pn _ _ {_,T,_,_,_,rfl,o.imp 'o' λ_=>Iff.rfl,λz=>?_};obtain⟨y,F⟩:=r z;have J:=bP z (Ct q);unfold ET at J;have M:t.w=1/\t.h=1:=by simpa using J
       have ec:AA t.w t.h p=[p]:=by
        unfold AA Bl;rw[M.1,M.2];simp
       rw[Ck,ec] at y;exact{by rw[Aq,Cu,q2,y];rfl,F}
 ·obtain⟨d,T,Y,U,u,s,o,r⟩:=B
  subst s;have ln:(EM (l.map Tr.kind) (ps.map Aa)).length=ps.length:=by unfold EM;rw[List.length_zipWith,Ai,Ai,O,Nat.min_self]
  rw[Aq] at r;simp!;refine hq true λ_ z=>?_
  obtain⟨y,F⟩:=r z;rw[ln,Ck] at y;rw[<-y];exact F
def mY{a:List Ae}{n:Nat}{c:Ae}(h:a[n]?=some c):Au (.lst (a.map Aa)) (.int n)=some (Aa c):=(bF (ao c) 'o' (by rw[CH,AX,h];rfl)).1
def mZ{a:List Ae}{v:Int}(c:0<=v)(b:v<(a.length:Nat)):∃(n:Nat) (c:Ae),v=(n:Int)/\a[n]?=some c:=by
 have:v.toNat<a.length:=by omega
 exact{v.toNat,a[v.toNat],'o',Ba this}
section
variable{S:Type}{Q:Fl->S->Prop}{E:AM->S->Prop}{Z:Ag}{st:S}
def m2{i:Nat}(c:AF Z i=some l)(b:Ab (fk Z st) (λd a=>∃j n,d=.int j/\B3 l.length j=some n/\v.imm=true/\Q (.nx (Z.set i (.own (.lst (l.set n v))))) a) E):Ab (DN S i fk v Z st) Q E:=by
 unfold DN;rw[c];refine ae.mpr (ak b (λd a hI151=>?_) λ_ _ z=>z);obtain⟨j,n,e,c,b,q⟩:=hI151;subst e;show Ab (match B3 l.length j with | some n=>if v.imm=true then .ok (.nx (Z.set i (.own (.lst (l.set n v))))) a else .bad | none=>.bad) Q E;rw[c];show Ab (if v.imm=true then .ok (.nx (Z.set i (.own (.lst (l.set n v))))) a else .bad) Q E;rw[if_pos b];exact q
def vG{i:Nat}(h:Ab (fv Z st) (λt c=>∃a b,t=.tup [a,b]/\b.imm=true/\Ab (DN S i fk a Z c) (λr d=>∃f,r=.nx f/\Ab (DN S i fl b f d) Q E) E) E):Ab (Ik S i fk fl fv Z st) Q E:=by
 unfold Ik;refine ae.mpr (ak h (λt c hI152=>?_) λ_ _ z=>z);obtain⟨a,b,e,c,q⟩:=hI152;subst e;show Ab (if b.imm=true then _ else _) Q E;rw[if_pos c];refine ae.mpr (ak q (λr d hI153=>?_) λ_ _ z=>z);obtain⟨f,e,q⟩:=hI153;subst e;exact q
end
def IT:List D->Dr->Ap Dr D:=CU 8 3 (zk9 By IS).1
def vH{d j:Int}{q:List Ae}{ts:List Tr}{A:List Ae}{J:Dr}{Q:D->Dr->Prop}{E:AM->Dr->Prop}(I:Cfg d j q ts)(c:1<=d)(b:d<=9)(c:1<=j)(e:j<=9)(b:A.length=ts.length)(c:AS ts=true->GP d j q A)(e:J.2<2 ^ 39)(R:∀(o:List Ae) p,o.length=ts.length->(AS ts=true->GP d j q o)->p.2<=J.2+30->Q (.tup (o.map Aa)) p):Ab (IT [Am d j q ts,.tup (A.map Aa)] J) Q E:=by
 refine bU rfl 'z' ?_;unfold zk9;dsimp only;have e:=I.few;have U:Au (Am d j q ts) (.int 0)=some (.int d):=rfl;have N:Au (Am d j q ts) (.int 1)=some (.int j):=rfl;have Q:∀o:List Ae,D.depL (o.map Aa)<=29:=λo=>Aw (bM dC o) 'z'
 simp_all!;simp! [FT,am ao];simp_all!;simp!;refine ar 'z' 'z' 'o' λg e n h m=>?_
 simp! [AJ,AD];rw[ba 'o' 'o'];refine aO (λi Z p=>∃(o:List Ae) (u r z B y:Sl),Z=[Sl.hnd,.bor (Am d j q ts),.bor (.tup (A.map Aa)),u,r,z,B,y]/\(u=.own (.lst (o.map Aa))\/u=.bor (.lst (o.map Aa)))/\o.length=ts.length/\(AS ts=true->GP d j q o)/\p.2<=e.2+6*i) 0 {_,_,_,_,_,_,rfl,.inl rfl,b,c,'o'} (λi e Z p b L P O=>?_) λZ p L=>?_
 ·obtain⟨o,u,r,z,B,y,F,s,C,v,G⟩:=L
  obtain⟨rfl,c⟩:=bg b;subst F;rw[Aq] at G;refine{_,rfl,?_};have x:∀(c:Dr) (r z B y:Sl),c.2<=p.2+6->P (.nx [Sl.hnd,.bor (Am d j q ts),.bor (.tup (A.map Aa)),u,r,z,B,y]) c:=λc r z B y g=>O _ _ {o,u,r,z,B,y,rfl,s,C,v,'o'}
  have M:∀{l:List Ae} {m:Nat},m<l.length->B3 (l.map Aa).length (m:Int)=some m:=λh=>by rw[Ai];unfold B3;rw[if_pos 'o',if_pos 'o',CH]
  have g:∀(e:List Ae) (c:Dr) (n m:Nat) (r:Sl) (b:Bool),(b=true->AS ts=true->GP d j q e)->e.length=o.length->c.2<=p.2+6->∃h,D.bl b=D.bl h/\if h=true then Ab (Il Dr [7] (Gi Dr 3 (fVk Dr 7)) [Sl.hnd,.bor (Am d j q ts),.bor (.tup (A.map Aa)),u,r,.bor (.int (n:Int)),.bor (.int (m:Int)),.own (.lst (e.map Aa))] c) P E else P (.nx [Sl.hnd,.bor (Am d j q ts),.bor (.tup (A.map Aa)),u,r,.bor (.int (n:Int)),.bor (.int (m:Int)),.own (.lst (e.map Aa))]) c:=λe c n m r b h E A=>by
   refine{b,rfl,?_};cases b
   ·rw[if_neg BQ]
    exact x c _ _ _ _ A
   ·rw[if_pos rfl]
    simp! [rp];exact O _ c {e,_,_,_,_,_,rfl,.inr rfl,'o',h rfl,'o'}
  rcases s with rfl | rfl
  all_goals
   simp! [bn,dD (Q o)];by_cases c:o=[]
   ·have e:decide (o.map Aa=[])=true:=by simp[c]
    rw[e];simp!;exact x p _ _ _ _ 'o'
   ·have e:decide (o.map Aa=[])=false:=by simp[c]
    have pos:0<o.length:=List.length_pos_iff.mpr c;rw[e];simp!;simp_all!;simp! [BF,Ai];refine ar 'o' 'o' 'o' λx c e A h=>?_
    refine ar 'o' 'o' 'o' λE c x h O=>?_
    obtain⟨n,c,rfl,T⟩:=mZ e A;obtain⟨m,Q,rfl,O⟩:=mZ x h;have e:n<o.length:=(Bd.mp T).1;have x:m<o.length:=(Bd.mp O).1;try simp?! [wp_ok]
    simp_all!;simp! [FT,am ao];simp_all!;simp!;refine ar 'z' 'z' 'o' λE h a4 b4 A=>?_
    simp! [aS];by_cases P:E=0
    ·have A:(E == 0)=true:=by rw[P];rfl
     rw[A];simp!;refine vG ?_;simp! [mY O,mY T,aW,ao];refine{_,_,rfl,ao _,m2 (l:=o.map Aa) (by simp?! [AF,am ao]) ?_};simp! [ao];refine{_,_,rfl,M e,_,rfl,m2 (l:=(o.set n Q).map Aa) (by rw[<-List.map_set];simp?! [AF,am ao]) ?_};simp! [ao];refine{_,_,rfl,M (by rw[CI];exact x),?_};rw[<-List.map_set];simp!;with_reducible refine mX I (by rw[CI,CI];exact C) λb x=>?_
     exact g ((o.set n Q).set m c) h n m _ b x (by rw[CI,CI]) 'o'
    ·have A:(E == 0)=false:=beq_eq_false_iff_ne.mpr P
     rw[A];simp! [U];refine ar 'o' 'o' 'o' λc h E A O=>?_
     simp! [N];refine ar 'o' 'o' 'o' λh A O E N=>?_
     simp! [aW,AF,am ao];refine{_,_,rfl,M e,?_};have E:(o.map Aa).set n (D.tup [.int c,.int h])=(o.set n (c,h)).map Aa:=(List.map_set (f:=Aa) (l:=o) (i:=n) (a:=(c,h))).symm;rw[E];simp!;with_reducible refine mX I (by rw[CI];exact C) λb x=>?_
     exact g (o.set n (c,h)) A n m _ b x (by rw[CI]) 'o'
 ·obtain⟨o,u,r,z,B,y,F,s,C,v,G⟩:=L
  subst F;rw[bq,Aq] at G;rcases s with r | r
  ·subst r
   simp! [BK,am ao];exact R o p C v 'o'
  ·subst r
   simp! [BK,am ao];exact R o p C v 'o'
theorem fN{α:Type}[DecidableEq α]{f:α->D}(h:∀a b,D.eqq (f a) (f b)=some (decide (a=b))):∀l m:List α,D.eqL (l.map f) (m.map f)=some (decide (l=m))
 | [],[]=>by show some true=_;rw[aV rfl]
 | [],b::m=>by show some false=_;rw[aI (List.cons_ne_nil b m).symm]
 | a::l,[]=>by show some false=_;rw[aI (List.cons_ne_nil a l)]
 | a::l,b::m=>by
   show ((D.eqq (f a) (f b)).bind λx=>(D.eqL (l.map f) (m.map f)).map λy=>x&&y)=_;rw[h,fN h l m];show some (decide (a=b)&&decide (l=m))=_;rw[<-Bool.decide_and];exact congrArg some (decide_eq_decide.mpr List.cons_eq_cons.symm)
structure Eqv(a b:D)(x:Bool):Prop where
 to:D.eqq a b=some x
 da:a.dep<=30
 db:b.dep<=30
 fro:D.eqq b a=some x
def Eqv.symm{x:Bool}(h:Eqv a b x):Eqv b a x:=⟨h.fro,h.db,h.da,h.to⟩
def m3{α:Type}[DecidableEq α]{a b:α}:decide (b=a)=decide (a=b):=decide_eq_decide.mpr ⟨Eq.symm,Eq.symm⟩
def Eqv.tup{α:Type}[DecidableEq α]{f:α->D}(h:∀a b,D.eqq (f a) (f b)=some (decide (a=b)))(c:∀a,(f a).dep<=1)(l m:List α):Eqv (.tup (l.map f)) (.tup (m.map f)) (decide (l=m)):=
 {fN h l m,Em (Aw (bM c l) 'z'),Em (Aw (bM c m) 'z'),m3 (a:=l)▸fN h m l}
def vI(a b:Int):D.eqq (.int a) (.int b)=some (decide (a=b)):=rfl
def Eqv.int(a b:Int):Eqv (.int a) (.int b) (decide (a=b)):={rfl,AR _,AR _,m3 (a:=a)▸rfl}
def Eqv.non:Eqv .non .non true:={rfl,AR _,AR _,rfl}
def Eqv.ne{x:Bool}(h:Eqv a b x):BE true a b=some (.bl (!x)):=by
 unfold BE;rw[if_pos h.da,h.to];rfl
def m4(p q:Nat×Nat):D.eqq (Ec p) (Ec q)=some (decide (p=q)):=by
 show some (((p.1:Int) == q.1)&&(((p.2:Int) == q.2)&&true))=_;rw[Option.some.injEq,Fo];simp[Prod.ext_iff,Int.ofNat_inj]
def m5(p:Nat×Nat):(Ec p).dep<=1:=Al 1
def BP(ts:List Tr):List D:=(Dv ts ts.length).map Ec
def EC(wide high:Int)(sh:List Ae)(ts:List Tr):List D:=[.tup (Dg wide high sh ts),.tup (BP ts),Du ts (freeC wide high sh []),Cs wide high sh ts]
def vJ:(∃l:List Int,Du ts F=.tup (l.map D.int))\/Du ts F=.non:=by
 unfold Du;split
 ·split
  ·exact .inr rfl
  ·exact .inl {_,rfl}
 ·exact .inr rfl
def iF:(Du ts F).imm=true:=by
 rcases vJ (ts:=ts) (F:=F) with⟨l,e⟩ | e<;>rw[e]
 ·exact am (λ_=>ah) l
 ·rfl
def iG{b a:Int}:(Cs b a d c).imm=true:=by
 unfold Cs;split
 ·split<;>rfl
 ·rfl
def iH{b a:Int}:D.immL (EC b a d c)=true:=
 Fe.mpr {eo,Fe.mpr {am dE _,Fe.mpr {iF,Fe.mpr ⟨iG,rfl⟩}}}
def HC.lc{b a:Int}(h:HC b a d c):IP c:=⟨h.sc.few,h.sc.wh⟩
def HC.w0{a b:Int}(h:HC a b d c):0<=a/\a<=9:={Int.le_trans 'z' h.w1,h.w9}
def HC.h0{b a:Int}(h:HC b a d c):0<=a/\a<=9:={Int.le_trans 'z' h.h1,h.h9}
def IU:List D->Ap Unit D:=Bj 2 2 (wc2 GL GK F2 GF).1
def m6{b a:Int}(h:HC b a d c)(f:Q (.tup (EC b a d c)) ()):Ab (IU [Am b a d c,AB c]) Q E:=by
 refine aK rfl 'z' ?_;unfold wc2;dsimp only;have e:(D.tup (Dg b a d c)).imm=true:=eo;have e:D.immL (BP c)=true:=am dE _;have i:BK [.lst (BP c)]=some (.tup (BP c)):=if_pos e;have g:A6 [.tup (Dg b a d c),.tup (BP c),Du c (freeC b a d []),Cs b a d c]=some (.tup (EC b a d c)):=dj iH 'd';simp!;with_reducible refine ij h.sc ?_
 simp!;with_reducible refine iE h.lc ?_
 have e:BK [.lst ((Dv c c.length).map Ec)]=some (.tup (BP c)):=i;simp! [e];with_reducible refine iB h.sc.cfg h.w0 h.h0 h.one ?_
 simp!;with_reducible refine iC h.sc.cfg h.w0 h.h0 ?_
 simp! [g];exact{.inl iH,f}
structure Dif(wide high:Int)(sh:List Ae)(ts us:List Tr)(x1 x2 x3 x4:Bool):Prop where
 e1:Eqv (.tup (Dg wide high sh ts)) (.tup (Dg wide high sh us)) x1
 e2:Eqv (.tup (BP ts)) (.tup (BP us)) x2
 e3:Eqv (Du ts (freeC wide high sh [])) (Du us (freeC wide high sh [])) x3
 e4:Eqv (Cs wide high sh ts) (Cs wide high sh us) x4
def Dif.symm{b a:Int}{d f e c:Bool}(h:Dif b a j i g d f e c):Dif b a j g i d f e c:=⟨h.e1.symm,h.e2.symm,h.e3.symm,h.e4.symm⟩
def m7{f d:Int}(h:AS i=true)(g:GP f d j (pl i)):(freeC f d j i).length+i.length=(freeC f d j []).length:=by
 have e:freeC f d j i=(freeC f d j []).filter λc=>!decide (c∈pl i):=by
  rw[fG,List.filter_filter];unfold freeC;refine List.filter_congr λc _=>?_
  rw[uS h];by_cases a:c∈j<;>by_cases b:c∈pl i<;>simp[a,b]
 have h:(pl i).length=i.length:=Ai ..;have o:(pl i++(freeC f d j []).filter λc=>!decide (c∈pl i)).Nodup:=El.mpr {g.1,fJ.filter _,λa n b h e=>by
  have:=(C7.mp h).2;rw[<-e,aV n] at this;cases this}
 have a:=cV o (m:=freeC f d j []) λc h=>by
  rcases Br.mp h with z | z
  ·exact g.2 c z
  ·exact(C7.mp z).1
 have b:=cV (l:=freeC f d j []) fJ (m:=pl i++(freeC f d j []).filter λc=>!decide (c∈pl i)) λc h=>by
  by_cases z:c∈pl i
  ·exact Ei _ z
  ·exact Dw _ (C7.mpr {h,by rw[aI z];rfl})
 rw[A4] at a b;rw[e];omega
open H in
def vK{b a:Int}(p:HC b a c g)(j:HC b a c d)(e:d.length=g.length)(o:AS d=AS g):∃x,Eqv (Cs b a c g) (Cs b a c d) x:=by
 have n:∀f:List Tr,(AS f=true->∀e,EU b a c f≠[e])->Cs b a c f=.non:=λf k=>by
  unfold Cs;split
  ·rename_i e h
   cases z:AS f with
   | false=>rfl
   | true=>exact absurd h (k z e)
  ·rfl
 have m:∀f:List Tr,AS f=true->(freeC b a c f).length=1->∃i,Cs b a c f=.int i:=λf z l=>by
  obtain⟨e,h⟩:=List.length_eq_one_iff.mp l;unfold Cs EU;rw[h,z];exact{_,rfl}
 by_cases z:AS g=true
 ·have f:AS d=true:=o.trans z
  have q:=m7 z (p.one z);have f2:=m7 f (j.one f);by_cases l:(freeC b a c g).length=1
  ·obtain⟨i,q⟩:=m g z l
   obtain⟨j,p⟩:=m d f 'o';rw[q,p];exact{_,Eqv.int i j}
  ·have f:∀e,EU b a c d≠[e]:=λe h=>by
    have:(freeC b a c d).length=1:=by show (EU b a c d).length=1;rw[h];rfl
    omega
   rw[n g λ_ e h=>l (by show (EU b a c g).length=1;rw[h];rfl),n d λ_=>f];exact{_,Eqv.non}
 ·rw[n g λk=>absurd k z,n d λk=>absurd (o▸k) z]
  exact{_,Eqv.non}
def vL(c:AS b=AS a):∃x,Eqv (Du a F) (Du b F) x:=by
 unfold Du;rw[c];split
 ·split
  ·exact{_,Eqv.non}
  ·exact{_,Eqv.tup vI (λ_=>AR _) _ _}
 ·exact{_,Eqv.non}
def vM{a b:Int}{e:List Ae}{c d:List Tr}(l:HC a b e c)(j:HC a b e d)(m:d.length=c.length)(h:AS d=AS c):∃n i g f,Dif a b e c d n i g f/\BE true (.lst (BP c)) (.lst (BP d))=some (.bl (!i)):=by
 obtain⟨g,n⟩:=vL (F:=freeC a b e []) h;obtain⟨f,i⟩:=vK l j m h;have g:∀f:List Tr,Dg a b e f=(f.map (ES a b e)).map Aa:=λf=>by rw[Cf];rfl
 refine{decide (c.map (ES a b e)=d.map (ES a b e)),_,_,_,{?_,Eqv.tup m4 m5 _ _,n,i},?_}
 ·rw[g,g]
  exact Eqv.tup (λ_ _=>fK) dC _ _
 ·have g:D.eqq (.lst (BP c)) (.lst (BP d))=some (decide (Dv c c.length=Dv d d.length)):=by
   show (if (BP c).length=(BP d).length then D.eqL (BP c) (BP d) else some false)=_;by_cases k:(BP c).length=(BP d).length
   ·rw[if_pos k];exact fN m4 _ _
   ·rw[if_neg k,aI λz=>k (by unfold BP;rw[z])]
  have f:(D.lst (BP c)).dep<=30:=Em (Aw (bM m5 _) 'z');unfold BE;rw[if_pos f,g];rfl
instance kwS(k:Nat):Str:=(["sides","lines","ring","sign"]:List Str).getD k ""
def Fc(x1 x2 x3 x4:Bool):List D:=(([0,1,2,3]:List Nat).filter λk=>!(([x1,x2,x3,x4]:List Bool).getD k true)).map λk=>.str (kwS k)
def ED(x1 x2 x3 x4:Bool):D:=if x1 then if x2 then if x3 then if x4 then .non else .str "sign" else .str "ring" else .str "lines" else .str "sides"
def vN{d c:Int}{n l j i:Bool}(h:Dif d c e g f n l j i){k:Nat}(m:k∈([0,1,2,3]:List Nat)):∃a b,(EC d c e g)[k]?=some a/\(EC d c e f)[k]?=some b/\a.imm=true/\b.imm=true/\Eqv a b (([n,l,j,i]:List Bool).getD k true):=by
 have b:∀a:List Tr,(D.tup (Dg d c e a)).imm=true:=λ_=>eo
 have i:∀a:List Tr,(D.tup (BP a)).imm=true:=λ_=>am dE _
 simp only[AL,BW,or_false] at m;rcases m with r | r | r | r<;>subst r
 ·exact{_,_,rfl,rfl,b g,b f,h.e1}
 ·exact{_,_,rfl,rfl,i g,i f,h.e2}
 ·exact{_,_,rfl,rfl,iF,iF,h.e3}
 ·exact{_,_,rfl,rfl,iG,iG,h.e4}
def m8(b d c a:Bool):D.immL (Fc b d c a)=true:=am (λ_=>ay) _
def IV:List D->Ap Unit D:=Bj 5 3 (zr1 IU).1
def vO{c f:Int}{o n m l:Bool}(e:HC c f g i)(b:HC c f g j)(q:Am c f g j=Am c f g i)(h:Dif c f g i j o n m l)(u:Q (.lst (Fc o n m l)) ()):Ab (IV [Am c f g i,AB i,AB j]) Q E:=by
 refine aK rfl 'z' ?_;unfold zr1;dsimp only;have a:∀d:List Tr,(D.tup (EC c f g d)).imm=true:=λ_=>iH
 simp_all!;simp!;with_reducible refine m6 e ?_
 simp! [a];simp_all!;simp!;rw[<-q];with_reducible refine m6 b ?_
 simp! [a,l4];have b:D5 0 [.str "sides",.str "lines",.str "ring",.str "sign"]=([0,1,2,3]:List Nat).map λk=>.tup [.int k,.str (kwS k)]:=rfl
 rw[b];refine cc (y:=λk=>.str (kwS k)) (p:=λk=>!(([o,n,m,l]:List Bool).getD k true)) (λZ=>∃a b,Z=[a,b,Sl.bor (.tup (EC c f g i)),.bor (.tup (EC c f g j))]) {_,_,rfl} (λk q Z hI154=>?_) (aU 'z') ?_
 ·obtain⟨a,b,s⟩:=hI154
  subst s;obtain⟨d,e,r,z,b,x,v⟩:=vN h q;have a:Au (.tup (EC c f g i)) (.int k)=some d:=(bF b 'o' (by rw[CH];exact r)).2;have b:Au (.tup (EC c f g j)) (.int k)=some e:=(bF x 'o' (by rw[CH];exact z)).2;refine{_,rfl,{_,_,rfl},?_,λ_=>?_}
  ·simp! [a,b,v.ne]
  ·simp!
 ·simp!
  exact{.inr (m8 o n m l),u}
def IW:List D->Ap Unit D:=Bj 4 3 (ys3 IV).1
def m9{a b:Int}{j g e c:Bool}(m:HC a b o p)(d:HC a b o r)(l:Am a b o r=Am a b o p)(h:Dif a b o p r j g e c)(q:Q (ED j g e c) ()):Ab (IW [Am a b o p,AB p,AB r]) Q E:=by
 refine aK rfl 'z' ?_;unfold ys3;dsimp only;rw  [ax];simp!;with_reducible refine vO m d l h ?_
 have x:B6 []=some (.lst []):=rfl;have m:=m8 j g e c;have v:BE false (.lst (Fc j g e c)) (.lst [])=some (.bl (decide (Fc j g e c=[]))):=dD (Aw (bM (n:=0) (f:=λk=>D.str (kwS k)) (λ_=>Al 0) _) 'z');have u:∀d,(Fc j g e c)[0]?=some d->Au (.lst (Fc j g e c)) (.int 0)=some d:=λd l=>(bF (gu m l) (EW 0) l).1
 have s:ED j g e c=((Fc j g e c)[0]?).getD .non:=by cases j<;>cases g<;>cases e<;>cases c<;>rfl
 rw[s] at q;clear s h;generalize Fc j g e c=l at *;simp! [m];rw  [ax];simp! [x,v];cases l with
 | nil=>exact q
 | cons d l=>
   have c:decide ((d::l:List D)=[])=false:=aI (List.cons_ne_nil d l);rw[c];simp! [u d rfl];exact{.inl (gu (i:=0) m rfl),q}
def IX:List D->Ap Unit D:=Bj 3 3 (yf2 GF F2 GK GL).1
def vP{b a:Int}{o j p n:Bool}(d:HC b a l f)(c:HC b a l g)(e:Am b a l g=Am b a l f)(h:Dif b a l f g o j p n)(m:BE true (.lst (BP f)) (.lst (BP g))=some (.bl (!j)))(i:Q (ED o j p n) ()):Ab (IX [Am b a l f,AB f,AB g]) Q E:=by
 refine aK rfl 'z' ?_;unfold yf2;dsimp only;unfold ED at i;rw  [ax];simp!;with_reducible refine ij d.sc ?_
 simp!;rw[<-e];with_reducible refine ij c.sc ?_
 simp! [h.e1.ne];cases o with
 | false=>
   simp!;exact i
 | true=>
 simp!;rw  [ax];simp!;rw[e];with_reducible refine iE d.lc ?_
 simp!;rw[<-e];with_reducible refine iE c.lc ?_
 have o:BE true (.lst ((Dv f f.length).map Ec)) (.lst ((Dv g g.length).map Ec))=some (.bl (!j)):=m;simp! [o];cases j with
 | false=>
   simp!;exact i
 | true=>
 simp!;rw  [ax];simp!;rw[e];with_reducible refine iB d.sc.cfg d.w0 d.h0 d.one ?_
 simp!;rw[<-e];with_reducible refine iB c.sc.cfg c.w0 c.h0 c.one ?_
 simp! [h.e3.ne];cases p with
 | false=>
   simp!;exact i
 | true=>
 simp!;rw  [ax];simp!;rw[e];with_reducible refine iC d.sc.cfg d.w0 d.h0 ?_
 simp!;rw[<-e];with_reducible refine iC c.sc.cfg c.w0 c.h0 ?_
 simp! [h.e4.ne];cases n with
 | false=>
   simp!;exact i
 | true=>
   simp!;exact i
def vQ{g i:Int}(d:IC g i m n):HC g i m n:=
 {d.w1,d.w9,d.h1,d.h9,{d.few,d.w9,d.h9,Aw d.sub.length_le (bO d.w9 d.h9),λt j=>by
  have f:=d.tr t j;have:=f.w1;have:=f.h1;have:=f.xw;have:=f.yh;have:=f.x0;have:=f.y0;have:=d.w9;have:=d.h9;exact{'o','o','o','o'},λt j=>(d.tr t j).ways},λz=>{by
  refine F9.mpr (List.Pairwise.imp_of_mem (λ{a b} c l h e=>?_) d.apart);have e':((a.x,a.y):Ae)=(b.x,b.y):=e;exact h (a.x,a.y) (by rw[cu (bP z c)];exact C6) (by rw[cu (bP z l),e'];exact C6),λc a=>by
  obtain⟨t,j,rfl⟩:=Cv.mp a;have f:=d.tr t j;have a:=f.w1;have b:=f.h1;have c:=f.xw;have a:=f.yh;exact ip.mpr {{f.x0,by show t.x<g;omega,f.y0,by show t.y<i;omega},f.free _ (by rw[cu (bP z j)];exact C6)}}}
def nc(a:List Tr):AS a=(a.map Tr.wq).all λq=>q.1 == 1&&q.2.1 == 1:=by rw[List.all_map];rfl
def ng(a:List Tr):pl a=(a.map Tr.wq).map λq=>(q.2.2.1,q.2.2.2):=by rw[Cf];rfl
def HC.lined{b a:Int}(h:HC b a l d)(e:c.map Tr.wq=d.map Tr.wq)(i:∀t∈c,Bo t.ways):HC b a l c/\AB c=AB d:=by
 have j:c.length=d.length:=by rw[<-Ai (f:=Tr.wq) (as:=c),e,Ai]
 have g:pl c=pl d:=by rw[ng,ng,e]
 refine{{h.w1,h.w9,h.h1,h.h9,{by rw[j];exact h.sc.few,h.sc.w,h.sc.h,h.sc.sh,λt j=>?_,i},λz=>?_},by rw[eu,eu,g]}
 ·obtain⟨u,i,q⟩:=Cv.mp (e▸List.mem_map_of_mem (f:=Tr.wq) j)
  have q1:u.w=t.w:=congrArg Prod.fst q;have q2:u.h=t.h:=congrArg (λp=>p.2.1) q;rw[<-q1,<-q2];exact h.sc.wh u i
 ·rw[g]
  exact h.one (by rw[nc,<-e,<-nc];exact z)
theorem nh:∀{ts:List Tr} {ps:List Ae},ps.length=ts.length->∃a:List Tr,a.length=ts.length/\a.map Tr.kind=ts.map Tr.kind/\pl a=ps/\AS a=AS ts/\∀u∈a,∃t∈ts,u.w=t.w/\u.h=t.h/\u.ways=t.ways
 | [],[],_=>{[],rfl,rfl,rfl,rfl,λ_ h=>nomatch h}
 | t::ts,c::ps,h=>by
   obtain⟨a,e,b,d,g,f⟩:=nh (ts:=ts) (ps:=ps) (Nat.succ.inj h);refine{{ t with x:=c.1,y:=c.2 }::a,congrArg Nat.succ e,by rw[Be,Be,b];rfl,by show (c.1,c.2)::pl a=_;rw[d],by show (ET _&&AS a)=(ET t&&AS ts);rw[g];rfl,λu b=>?_};rcases AL.mp b with e | e
   ·exact{t,C6,by rw[e],by rw[e],by rw[e]}
   ·obtain⟨v,b,z⟩:=f u e
    exact{v,DU _ b,z}
def HC.bent{b a:Int}(h:HC b a d ts)(j:ps.length=ts.length)(m:AS ts=true->GP b a d ps):∃c:List Tr,c.length=ts.length/\AS c=AS ts/\HC b a d c/\.tup (ps.map Aa)=AB c/\Am b a d c=Am b a d ts:=by
 obtain⟨c,e,l,f,i,g⟩:=nh (ts:=ts) j;refine{c,e,i,{h.w1,h.w9,h.h1,h.h9,{by rw[e];exact h.sc.few,h.sc.w,h.sc.h,h.sc.sh,λu e=>?_,λu e=>?_},λz=>by rw[f];exact m (i▸z)},by rw[eu,f],by unfold Am;rw[l]}
 ·obtain⟨t,f,i,j,_⟩:=g u e
  rw[i,j];exact h.sc.wh t f
 ·obtain⟨t,f,_,_,i⟩:=g u e
  rw[i];exact h.sc.ways t f
def IY:List D->Dr->Ap Dr D:=CU 2 1 (zq1 By IJ IK ID).1
def vR{f:Dr}{Q:D->Dr->Prop}{E:AM->Dr->Prop}(b:f.2<2 ^ 36)(g:∀w h d a b,HC w h d a->b.2<=f.2+600->Q (.tup [Am w h d a,AB a]) b):Ab (IY [] f) Q E:=by
 refine bU rfl 'z' ?_;unfold zq1;dsimp only;have l:iOp GX (λi j=>D.int (i ^ j.toNat)) (.int 10) (.int 9)=some (.int 1000000000):=rfl;rw  [ax];simp!;refine ar 'z' 'z' 'o' λb c i e j=>?_
 simp!;rw  [ax];simp! [aS];by_cases c:b=0
 ·rw[show (b == 0)=true by rw[c];rfl]
  simp!;refine u7 'o' λw h d a e i j=>?_
  simp!;exact{.inl (Fe.mpr ⟨cT,cU⟩),g _ _ _ _ _ i 'o'}
 ·rw[show (b == 0)=false from beq_eq_false_iff_ne.mpr c]
  simp!;rw  [ax];simp! [aS];by_cases c:b=1
  ·rw[show (b == 1)=true by rw[c];rfl]
   simp!;refine u8 'o' λw h d a e i j=>?_
   simp!;exact{.inl (Fe.mpr ⟨cT,cU⟩),g _ _ _ _ _ i 'o'}
  ·rw[show (b == 1)=false from beq_eq_false_iff_ne.mpr c]
   simp!;refine ar 'z' 'z' 'o' λc e j i b=>?_
   simp! [aS,l];refine uo 'o' 'z' 'z' λw h d a c b _ e=>?_
   simp!;exact{.inl (Fe.mpr ⟨cT,cU⟩),g _ _ _ _ _ (vQ b) 'o'}
def vS{b:Bool}:BE true (.bl b) (.bl b)=some (.bl false):=by cases b<;>rfl
def vT(c e d a:Bool):(ED c e d a).imm=true/\BE true (ED c e d a) (ED c e d a)=some (.bl false)/\(∃b,Fv false (ED c e d a) .non=some (.bl b))/\(ED c e d a).flat=false:=by
 cases c<;>cases e<;>cases d<;>cases a<;>exact{rfl,qX rfl (AR _),{_,rfl},rfl}
def vU(ns:List Int)(a:ns.length<=63):Ab ((ue6 By IY IR IT IX IW).1 (Bu vt9.length) (EO ns,0)) (λa _=>a=.rt (.bl true)) λ_ _=>False:=by
 unfold ue6;dsimp only;have c:Bu vt9.length=[Sl.no,.hnd,.no,.no,.no,.no,.no,.no,.no]:=rfl;rw[c,ax];obtain⟨a,b,d⟩:∃a:Dr,(EO ns,(0:Int))=a/\a.2=0:={_,rfl,rfl};rw[b];simp!;refine ar 'z' 'z' 'o' λa b e c d=>?_
 simp! [AJ,AD];rw[ba 'o' 'o'];refine aO (λi Z a=>∃(B F C q r p m:Sl),Z=[Sl.no,.hnd,B,F,C,q,r,p,m]/\a.2<=b.2+1000*i) 0 {_,_,_,_,_,_,_,rfl,'o'} (λi e Z a o l P Q=>?_) λZ a l=>?_
 ·obtain⟨B,F,C,q,r,p,m,h,u⟩:=l
  obtain⟨rfl,b⟩:=bg o;subst h;rw[Aq] at u;refine{_,rfl,?_};simp_all!;simp!;refine vR 'o' λc f z n g b d=>?_
  simp!;refine br (λZ (a:Dr)=>∃(ts:List Tr),Z=[Sl.no,.hnd,.bor (.int (0+(i:Int))),.bor (Am c f z ts),.bor (AB ts),q,r,p,m]/\HC c f z ts/\a.2<=g.2+40) (λP2 d=>?_) λZ g l=>?_
  ·simp!
   refine ar 'z' 'z' 'o' λj s y v x=>?_
   simp! [aS];by_cases v:j=0
   ·rw[show (j == 0)=true by rw[v];rfl]
    simp!;refine vE b.lc b.sc.ways 'o' λy g A x t4=>?_
    obtain⟨s,I⟩:=b.lined A x;simp!;rw[<-I];exact d _ _ {y,rfl,s,'o'}
   ·rw[show (j == 0)=false from beq_eq_false_iff_ne.mpr v]
    simp!;exact d _ _ {n,rfl,b,'o'}
  ·obtain⟨ts,h,d,t4⟩:=l
   subst h;simp!;rw[ba 'z' 'z'];refine aO (λj Z a=>∃(q r p m:Sl),Z=[Sl.no,.hnd,.bor (.int (0+(i:Int))),.bor (Am c f z ts),.bor (AB ts),q,r,p,m]/\a.2<=g.2+30*j) 0 {_,_,_,_,rfl,'o'} (λj e Z a o l b J=>?_) λZ a l=>?_
   ·obtain⟨q,r,p,m,h,g⟩:=l
    obtain⟨rfl,b⟩:=bg o;subst h;rw[Aq] at g;have n:j<4:=b;refine{_,rfl,?_};simp_all!;simp!;have b:=eu ts;have n:(pl ts).length=ts.length:=Ai ..;rw[b];refine vH (ts:=ts) d.sc.cfg d.w1 d.w9 d.h1 d.h9 n d.one 'o' λx E v G n=>?_
    rw[<-b];obtain⟨y,R,P,s,I,x⟩:=d.bent v G;obtain⟨M,O,L,N,n,A⟩:=vM d s R P;obtain⟨v,G,⟨b,T⟩,R⟩:=vT M O L N;have b:(AB y).flat=false:=rfl;rw[I];simp! [b];simp_all!;simp!;with_reducible refine vP d s x n A ?_
    simp! [v,R];with_reducible refine m9 d s x n ?_
    simp! [v];rw[<-x];with_reducible refine m9 s d x.symm n.symm ?_
    rw[x];generalize ED M O L N=d at *;have b:A6 [d,d]=some (.tup [d,d]):=aW v v;simp! [v,b];refine aO (λk Z a=>∃(m:Sl),Z=[Sl.no,.hnd,.bor (.int (0+(i:Int))),.bor (Am c f z ts),.bor (AB ts),.bor (.int (0+(j:Int))),.bor (AB y),.bor d,m]/\a=E) 0 {_,rfl,rfl} (λk e Z a o l c b=>?_) λZ a l=>?_
    ·obtain⟨m,h,rfl⟩:=l
     subst h;obtain rfl:e=d:=by
      match k,o with
      | 0,o=>cases o;rfl
      | 1,o=>cases o;rfl
      | n+2,o=>simp at o
     refine{_,rfl,?_};simp! [G,T,vS];exact b _ _ {_,rfl,rfl}
    ·obtain⟨m,h,rfl⟩:=l
     subst h;exact J _ _ {_,_,_,_,rfl,'o'}
   ·obtain⟨q,r,p,m,h,g⟩:=l
    subst h;rw[bq] at g;have a:(4:Int).toNat=4:=rfl;rw[a] at g;exact Q _ _ {_,_,_,_,_,_,_,rfl,'o'}
 ·obtain⟨B,F,C,q,r,p,m,h,u⟩:=l
  subst h;simp!
end K35
section
set_option maxHeartbeats 0
namespace K35
open L2
def vV(s:Stmt):dA s=E1 s:=by cases s<;>rfl
def vW(s:Stmt):dB s=Co s:=by cases s<;>rfl
def vX(s:Stmt):dS s=A9 s:=by cases s<;>rfl
def FnAt.to{K:FG}{x:Str}{i:Nat}(h:FnAt K x i):At K x (top i):=by
 obtain⟨f,j,a,e,c,kV,d,g,b,j,a,l,c,k⟩:=h;rw[vV,vW,vX] at l;exact{f,_,a,oZ (st:=top i) l c k}
def all_mk{l:PySem.W.OpenLaw}{w:World}{K:FG}{h:Heap}{d:Str->Option Value}{b:Addr}(X:K.In h)(G:h.Ns mainGlobals d)(c:d "law" = some (.ref b))(F:Facts K) :
 ∃g:FuncData,(∀(s:Shared) (v:Value),BindsTo s g {[v],[]} [("_law_script",v)])/\∀a:Heap,K.In a->a.Ns mainGlobals d->Cn l.prog w K d a CX0 10 b g ["_law_script"] (spLaw K):=by
 cases F with
 | mk p h_1 h_2 h_3 h_4 h_5 h_6 h_7 h_8 h_9 i j R N h Q n Y u U h_20 I E o J r L W B m A P Z T M y O C b N7 L8 N3 M8 N8 N4 f N5 K0 O0 O3 O4 O5 K7 M9 L9 O6 O7 O8 L1 O9 N6 N0 M0 M1 M4 M5 M6 K1 J2=>
 obtain⟨q,e,z,Fl⟩:=b.to;obtain⟨_,_,kV,q,pm,an,cd,ct,_,rfl,_,_⟩:=Fl.ex;have e:=c.symm.trans (mg_of X G z);cases e;have c:=λ{x:Str} (z:nsIn K mainGlobals x=some none)=>mg_none_of X G z
 have b:Bn d:={c N7,c L8,c N3,c M8,c N8,c N4,c f,c N5,c K0,c O0,c O3,c O4,c O5,c K7,c M9,c L9,c O6,c O7,c O8,c L1,c O9};have cs:Cst K d:={trivial,{_,mg_of X G N6},{_,mg_of X G N0,re (p0:=(1,0)) (p1:=(0,1)) (p2:=(-1,0)) (p3:=(0,-1)) M0 M1 M4 M5 M6},{_,mg_of X G K1,{_,_,_,J2,rfl,rfl,by show 4<=sizeLine;decide,(.cons {_,rfl} (.cons {_,rfl} (.cons {_,rfl} (.cons {_,rfl} .nil))))}}};refine{fnOf "law" "law" (E1 vr3) (Co vr3) (A9 vr3) .none kV q pm an cd ct,λs v=>.of_eq rfl,λa _ _=>?_};have CB:Dq l.prog w K d a 1 "_law_begin" ["_law_script"] (Ie K):=l6 _ _ _ X G p.to λf g F=>uc F b
 have c:=λp q=>l6 (sp:=spS (WdS p q) K By) l.prog w a X G h_1.to λf g F=>ud F b.len b.divmod
 have z:=aM l.prog w a X G h_2.to xx2 (ys1.2 _ _ _ _ _ b cs 0 );have f:=aM l.prog w a X G h_3.to zr9 (yn1.2 _ _ _ _ _ b cs 0 );have d:=aM l.prog w a X G h_4.to zo7 ((ym5 GD).2 _ _ _ _ _ b cs 1 f.up);have v:=aM l.prog w a X G h_5.to zo2 ((zx2 ER).2 _ _ _ _ _ b cs 2 d.up);have g:=aM l.prog w a X G h_6.to wv8 (we6.2 _ _ _ _ _ b cs 0 );have e:=aM l.prog w a X G h_7.to zz6 (zt6.2 _ _ _ _ _ b cs 0 );have x:=aM l.prog w a X G h_8.to zv3 ((yt8 IE GD FB IF).2 _ _ _ _ _ b cs 1 g.up f.up e.up z.up);have f:=aM l.prog w a X G h_9.to ya5 (zj9.2 _ _ _ _ _ b cs 0 );have g:=aM l.prog w a X G i.to xf8 ((yf0 GG GE).2 _ _ _ _ _ b cs 3 v.up f.up);have i:=aM l.prog w a X G j.to ze8 ((zr2 ER GE FB IG).2 _ _ _ _ _ b cs 2 d.up f.up e.up x.up);have j:=aM l.prog w a X G R.to wk4 ((xf6 IH).2 _ _ _ _ _ b cs 3 i.up);have f:=aM l.prog w a X G N.to wk5 (xf7.2 _ _ _ _ _ b cs 0 );have i:=aM l.prog w a X G h.to yc0 ((zx1 IQ).2 _ _ _ _ _ b cs 1 f.up);have h:=aM l.prog w a X G Q.to ys9 ((yu1 Hz).2 _ _ _ _ _ b cs 2 i.up);have f:=aM l.prog w a X G n.to ye4 (zn7.2 _ _ _ _ _ b cs 0 );have i:=aM l.prog w a X G Y.to zf6 ((zp4 FB).2 _ _ _ _ _ b cs 1 e.up);have n:=aM l.prog w a X G u.to bY ((Iy GH IL).2 _ _ _ _ _ b cs 4 g.up i.up);have e:=aM l.prog w a X G U.to zk1 ((zv8 GI IM ER).2 _ _ _ _ _ b cs 5 f.up n.up d.up);have u:=aM l.prog w a X G h_20.to zf7 (zl4.2 _ _ _ _ _ b cs 0 );have i:=aM l.prog w a X G I.to ye3 ((xw7 GG GI ER GH IN).2 _ _ _ _ _ b cs 4 v.up f.up d.up g.up u.up);have d:=aM l.prog w a X G E.to wv7 ((wc2 GL GK F2 GF).2 _ _ _ _ _ b cs 6 i.up e.up h.up j.up);have f:=aM l.prog w a X G o.to zp1 ((zr1 IU).2 _ _ _ _ _ b cs 7 d.up);have u:=aM l.prog w a X G J.to yx4 ((ys3 IV).2 _ _ _ _ _ b cs 8 f.up);have d:=aM l.prog w a X G r.to zp2 (zm4.2 _ _ _ _ _ b cs 0 );have n:=aM l.prog w a X G L.to zv4 (zr8.2 _ _ _ _ _ b cs 0 );have f:=λp q=>bX l.prog w a X G W.to yc1 ((zy1 By).2 _ _ _ _ _ p q b cs 1 (c p q).up)
 have g:=λp q=>bX l.prog w a X G B.to ze9 ((yb1 By).2 _ _ _ _ _ p q b cs 1 (c p q).up)
 have o:=λp q=>bX l.prog w a X G m.to zd5 ((yb2 IA DQ By IB Iz).2 _ _ _ _ _ p q b cs 2 (f p q).up d.up (c p q).up (g p q).up n.up)
 have f:=λp q=>bX l.prog w a X G A.to zc9 ((zk8 DQ By).2 _ _ _ _ _ p q b cs 1 d.up (c p q).up)
 have g:=λp q=>bX l.prog w a X G P.to zc2 ((zn8 By DQ II).2 _ _ _ _ _ p q b cs 2 (c p q).up d.up (f p q).up)
 have m:=λp q=>bX l.prog w a X G Z.to zc3 ((zn9 By DQ).2 _ _ _ _ _ p q b cs 1 (c p q).up d.up)
 have f:=λp q=>bX l.prog w a X G T.to zu7 ((zq1 By IJ IK ID).2 _ _ _ _ _ p q b cs 3 (c p q).up (g p q).up (m p q).up (o p q).up)
 have m:=λp q=>bX l.prog w a X G M.to zf8 ((zy2 By).2 _ _ _ _ _ p q b cs 1 (c p q).up)
 have n:=aM l.prog w a X G y.to ze7 ((zu6 DQ).2 _ _ _ _ _ b cs 1 d.up);have g:=λp q=>bX l.prog w a X G O.to ze5 ((zk9 By IS).2 _ _ _ _ _ p q b cs 2 (c p q).up n.up)
 have d:=aM l.prog w a X G C.to xf9 ((yf2 GF F2 GK GL).2 _ _ _ _ _ b cs 6 j.up h.up e.up i.up);exact ue Fl (k:=9) CB.up (λp q e A a s H E h=>(ue6 By IY IR IT IX IW).2 _ _ _ _ _ p q b cs 9 (c p q).up (f p q).up (m p q).up (g p q).up d.up u.up _ e A a s H E h) vU
end K35
open PySem PySem.W PyProof.Rows
theorem PySem.Challenge.cw_slidehall_k35_where_stands_are_unlike_holds : PySem.Challenge.rw_slidehall_k35_where_stands_are_unlike.Holds :=
 K35.early λq loose XP YP d K hd hn hY facts =>
 L2.walk_of (l:=PySem.Challenge.rw_slidehall_k35_where_stands_are_unlike) (n:=63) (k:=10) (x:="_law_script") (CX:=λ_=>L2.CX0) (sp:=λw=>L2.spLaw (K w.params)) rfl 'z' hd {rfl,'z','z',rfl} hY (λw mg fa h KX G hmg=>K35.all_mk KX G (hn▸hmg) (facts w.params)) (λ_ _ a ns hl _ hS=>{a,ns,rfl,hS,hl,λ_=>rfl}) λ_ _ _ _ _ z=>z
end
end

