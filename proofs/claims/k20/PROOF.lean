import PyProof.Rows.All
import Wide.All
import OpenK.AllK
import Wide.FinOn
import KE.KDictSum
import KE.KIsAll
import KE.KListMore
import KE.KRevIter
import KE.KSortTup
import Lean
import OpenK.KCls
import OpenK.KOwn
import OpenK.KRaise
import PyProof.AutoRange
import PyProof.AutoSeq1
import PyProof.DictFindH
import PyProof.DictTruth
import PyProof.DictWalks
import PyProof.EqAt
import PyProof.EqKinds
import PyProof.ExcArgsOwn
import PyProof.ExcBaseAll.ValueError
import PyProof.FactsAll.range_2
import PyProof.FactsAll.tuple_2
import PyProof.InstStore
import PyProof.InstStoreFacts
import PyProof.ListMulRoad
import PyProof.MeetsDictList
import PyProof.NeKinds
import PyProof.NsDelKeeps
import PyProof.ReprLen
import PyProof.ReprRoads
import PyProof.Rows.Range3
import PyProof.Rows.RegStrFacts
import PyProof.Rows.SortRunsK
import PyProof.Rows.SortShell
import PyProof.Rows.TupDisplay
import PyProof.TupleCall
import PyProof.WalkInts
import PyProof.ExcClass
import PySem.Challenge.RW_slidehall_k20_come_to
section
set_option Elab.async false
set_option compiler.extract_closed false
set_option bootstrap.genMatcherCode false
set_option linter.all false
set_option maxRecDepth 100000
set_option maxHeartbeats 0
namespace K20
open PySem PySem.Spec PyProof.Rows PySem.W
def tp (i:Nat):Stmt:=PySem.Challenge.pw_slidehall_k20_come_to.main.body.getD i (.Pass ⟨0,0,0,0⟩)
def dA (s:Stmt):Arguments:=match s with
 | .FunctionDef _ z _ _ _ _ _ _ _ _=>z
 | _=>⟨[],[],none,[],[],none,[]⟩
def dB (s:Stmt):List Stmt:=match s with
 | .FunctionDef _ _ z _ _ _ _ _ _ _=>z
 | _=>[]
def dS (s:Stmt):Scope:=match s with
 | .FunctionDef _ _ _ _ _ _ z _ _ _=>z
 | _=>{ kind:=.function,names:=[],isGenerator:=false,isCoroutine:=false }
def FnAt (K:Frag)(x:Str)(i:Nat):Prop:=∃ (f:Addr)(oc:Value)(od an:Option Addr)(osl:Array (Option Value))(kV doc pm cdv ct:Value),nsIn K mainGlobals x=some (some (.ref f)) ∧
 K.lookup f=some ⟨oc,od,.func (fnOf x x (dA (tp i)) (dB (tp i)) (dS (tp i)) .none kV doc pm an cdv ct),osl⟩/\codeIn K cdv x=true/\keepIn K (.ref f)=true
theorem FnAt.of {K:Frag}{x:Str}{i:Nat}{f:Addr}{oc:Value}{od an:Option Addr}{osl:Array (Option Value)}{kV doc pm cdv ct:Value}(a:nsIn K mainGlobals x=some (some (.ref f)):=by k_is)
  (l:K.lookup f=some ⟨oc,od,.func (fnOf x x (dA (tp i)) (dB (tp i)) (dS (tp i)) .none kV doc pm an cdv ct),osl⟩:=by k_is)(c:codeIn K cdv x=true:=by k_is)(k:keepIn K (.ref f)=true:=by k_is):FnAt K x i:=⟨f,oc,od,an,osl,kV,doc,pm,cdv,ct,a,l,c,k⟩
def nZ(K)(x):=nsIn K mainGlobals x=some none
theorem nZ.of{K:Frag}{x}(h:nsIn K mainGlobals x=some none:=by k_is):nZ K x:=h
inductive Facts(K:Frag):Prop
|mk    (_:FnAt K "_law_begin" 27)(_:FnAt K "_law_take" 28)(_:FnAt K "within" 5)(_:FnAt K "covered" 6)(_:FnAt K "holders" 7)(_:FnAt K "goes" 12)(_:FnAt K "one_further" 13)(_:FnAt K "met_by" 14)(_:FnAt K "movers_among" 15)(_:FnAt K "movers" 16)(_:FnAt K "behind_step" 17)(_:FnAt K "stands_along" 18)(_:FnAt K "pushes_with_ends" 19)(_:FnAt K "refuse_too_many" 22)(_:FnAt K "layer_behind" 23)(_:FnAt K "spread" 24)(_:FnAt K "come_to" 25)(_:FnAt K "_law_covered" 30)(_:FnAt K "_law_room_of" 31)(_:FnAt K "_law_sized" 32)(_:FnAt K "_law_kind" 33)(_:FnAt K "_law_hall" 34)(_:FnAt K "_law_behind" 35)(_:FnAt K "_law_goes" 36)(_:FnAt K "_law_step" 37)(_:FnAt K "_law_pushed" 38)(_:FnAt K "_law_pushes" 39)(_:FnAt K "_law_layers" 40)(_:FnAt K "_law_all" 41)(_:FnAt K "_law_shuted_here" 42)(_:FnAt K "_law_lane" 43)(_:FnAt K "_law_same" 29)(_:FnAt K "law" 44)(_:nZ K "len")(_:nZ K "divmod")(_:nZ K "list")(_:nZ K "tuple")(_:nZ K "int")(_:nZ K "bool")(_:nZ K "str")(_:nZ K "dict")(_:nZ K "isinstance")(_:nZ K "all")(_:nZ K "any")(_:nZ K "sum")(_:nZ K "zip")(_:nZ K "enumerate")(_:nZ K "range")(_:nZ K "sorted")(_:nZ K "min")(_:nZ K "max")(_:nZ K "abs")(_:nZ K "reversed")(_:nZ K "set"){c9:Tok}(d8:nsIn K mainGlobals "WALL"=some (some (.int (-1) c9))){b3:Tok}(d4:nsIn K mainGlobals "STRONG"=some (some (.int (1) b3))){d0:Tok}(d9:nsIn K mainGlobals "DULL"=some (some (.int (-1) d0))){a0 a1 a2 a4 a3:Addr}{c6 a7 b1 a6 a9:Option Addr}{b8 b2 b0 a5 a8:Array (Option Value)}{c8 c5 c3 c4 b6:Nat}{c1 b9 c7 c0 c2 b5 b7 b4:Tok}(d7:nsIn K mainGlobals "STEPS"=some (some (.ref a0)))(d2:K.lookup a0=some ⟨.type "tuple",c6,.seq #[.ref a1,.ref a2,.ref a4,.ref a3] c8,b8⟩)(d1:K.lookup a1=some ⟨.type "tuple",a7,.seq #[.int (1) c1,.int (0) b9] c5,b2⟩)(d3:K.lookup a2=some ⟨.type "tuple",b1,.seq #[.int (0) c7,.int (1) c0] c3,b0⟩)(d6:K.lookup a4=some ⟨.type "tuple",a6,.seq #[.int (-1) c2,.int (0) b5] c4,a5⟩)(d5:K.lookup a3=some ⟨.type "tuple",a9,.seq #[.int (0) b7,.int (-1) b4] b6,a8⟩){t_MOST_STANDS:Tok}(y_MOST_STANDS:nsIn K mainGlobals "MOST_STANDS"=some (some (.int (2000) t_MOST_STANDS))):Facts K
end K20
open PySem PySem.W PyProof.Rows PySem.Challenge
noncomputable def vw:Program:=view rw_slidehall_k20_come_to.row.toRowW.prog [1,2,4,5,6,7,9,10,11,12,13,14,15,16,17,18,19,21,22,23,24,25,27,28,29,30,31,32,33,34,35,36,37,38,39,40,41,42,43,44]
theorem K20.hd(H:Hook){d k}(hc:WalkO vw [] (XL vw []) H.says rw_slidehall_k20_come_to.row.toRowW d k λf v=>call f v)(hw:rw_slidehall_k20_come_to.row.toRowW.promised)(hl:LeftO rw_slidehall_k20_come_to.row.prog vw [] (λs=>xlAt vw [] s && recOk rw_slidehall_k20_come_to.row.toRowW.records s) H.obs H.val 6100)(e:defOf vw rw_slidehall_k20_come_to.row.name=some (d,k))(p:rw_slidehall_k20_come_to.row.prog.theDef rw_slidehall_k20_come_to.row.name=some (d.params,d.body,d.scope))(q:kwWritten? d.params.kwonlyargs d.params.kw_defaults=some k):rw_slidehall_k20_come_to.row.Holds:=
 holds_open hl H.of H.keeps (λs e=>xl_of s (Bool.and_eq_true_iff.mp e).1) XL.keeps e p q (λs e=>recFacts_of (Bool.and_eq_true_iff.mp e).2) (by rfl) (by decide +kernel) (by decide +kernel) ⟨rfl,rfl,rfl,rfl,rfl,by decide +kernel⟩ hw hc
local macro_rules
 | `(tactic| o_head $H)=>`(tactic| refine K20.hd $H ?_ ?w ?l rfl rfl rfl)
theorem K20.early (W:∀ (q:Program) (loose:List Str) (XP:(Str->Option Value)->Heap->Prop) (YP:World->Heap->Prop) (d:DefRec) (K:Params->Frag),d.params.defaults = []->d.name = "law"->(∀ (w:World) (h:Heap),YP w h->(K w.params).In h)->(∀ P:Params,K20.Facts (K P)) →
  WalkO q loose XP YP rw_slidehall_k20_come_to.row.toRowW d [] (λf vs=>PySem.call f vs)):rw_slidehall_k20_come_to.Holds:=by
 w_on; o_law; k_head
 case l=>intro w;kernel_rfl
 case w=>w_witness2
 k_fill
 refine W _ _ _ _ _ _ rfl rfl (λw h Y=>kIn_of Y) ?F
 case F =>
  intro P
  exact .mk .of .of .of .of .of .of .of .of .of .of .of .of .of .of .of .of .of .of .of .of .of .of .of .of .of .of .of .of .of .of .of .of .of .of .of .of .of .of .of .of .of .of .of .of .of .of .of .of .of .of .of .of .of .of (by k_is) (by k_is) (by k_is) (by k_is) (by k_is) (by k_is) (by k_is) (by k_is) (by k_is) (by k_is)

end
noncomputable section
set_option compiler.extract_closed false
set_option bootstrap.genMatcherCode false
set_option genSizeOf false
set_option genInjectivity false
local macro_rules(kind:=Lean.Parser.Command.declaration)
 |x=>if x.getHeadInfo matches .original .. then pure (if (x[1].getKind==``Lean.Parser.Command.«abbrev»||x[1].getKind==``Lean.Parser.Command.definition&&x[1][1][0].getId.isAtomic&&x[1][1][0].getId.toString.front.isUpper)&&x[0].getHeadInfo matches .none then x.setArg 0 (x[0].modifyArg 4 λ_=>Lean.mkNullNode #[Lean.mkNode ``Lean.Parser.Command.«noncomputable» #[Lean.mkAtom "noncomputable"]])else x.setHeadInfo .none)else Lean.Macro.throwUnsupported
local macro_rules
 |`(command|open H in $c)=>`(command|set_option tactic.hygienic true in $c)
local macro_rules
 | `(tactic| and_intros)=>`(tactic| exact ⟨rfl,rfl,rfl,by decide +kernel,rfl,by decide +kernel,by decide +kernel⟩)
set_option hygiene false in
local macro_rules
 |`('s')=>`((starEach (e::es) X.env=(false,eval e X.env)::starEach es X.env))
set_option hygiene false in
local macro_rules
 |`('u')=>`(((x == ("__debug__" : Str))=false))
set_option hygiene false in
local macro_rules
 |`('v')=>`((E5 X.env.cells scope.names []))
set_option hygiene false in
local macro_rules
 |`('w')=>`((λb=>¬W.mv b))
set_option hygiene false in
local macro_rules
 |`('i')=>`(((backTo pos (starEach es X.env)).any (·.1)=false))
set_option hygiene false in
local macro_rules
 |`('m')=>`((us.map Tr.pos))
set_option hygiene false in
local macro_rules
 |`('k')=>`((ns.map V.int))
local macro_rules
 |`('o')=>`(by omega)
local macro_rules
 |`('z')=>`(by decide)
local macro_rules
 |`('d')=>`(by simp)
set_option hygiene false in
local macro_rules
 |`('r')=>`((model prog w))
set_option hygiene false in
local macro_rules
 |`('e')=>`((model X.prog X.w))
set_option hygiene false in
local macro_rules
 |`('p')=>`((Addr×Obj))
local macro_rules
 |`(command|instance $i:declId $s:declSig $v:declVal)=>if i.raw.getHeadInfo matches .original .. then do let x<-Lean.getRef;pure (Lean.mkNode x.getKind #[x[0].modifyArg 4 λ_=>Lean.mkNullNode #[Lean.mkNode ``Lean.Parser.Command.«noncomputable» #[Lean.mkAtom "noncomputable"]],Lean.mkNode ``Lean.Parser.Command.definition #[Lean.mkAtom "def",i,Lean.mkNode ``Lean.Parser.Command.optDeclSig #[s.raw[0],Lean.mkNullNode #[s.raw[1]]],v,Lean.mkNullNode]])else Lean.Macro.throwUnsupported
local macro_rules
 |`({$x:term,$y:term})=>`(⟨$x,$y⟩)
 |`({$x:term,$y:term,$z:term,*})=>`(⟨$x,$y,$z,*⟩)
local macro_rules
 |`(tactic|cases $e:ident)=>`(tactic|first|(replace $e:ident:=Option.some.inj $e;cases ($e))|cases ($e))
open PySem renaming wpAny_bind→Ac,wpAny_pure→Ao,wpAny_field→Ca,wpAny_setField_rec→Ey,wpAny_mono→Db,wpAny_truthy_bool→Ec,wpAny_call_entry→DX,wpAny_seqItems→Ez
open List renaming length_map→Ai,getElem?_eq_some_iff→AQ,getElem?_eq_getElem→AO,getElem?_map→AK,length_append→A7,size_toArray→AX,mem_singleton→Bd,mem_cons→AE,mem_of_getElem?→Bq,append_assoc→BH,map_append→BD,mem_append→BN,take_add_one→Cc,map_cons→BI,mem_map→BF,take_length→CC,length_cons→CD,append_nil→Cp,length_take→CO,getElem?_set_ne→DD,getElem?_of_mem→DF,pairwise_cons→DH,getElem?_append_left→EW,mem_cons_of_mem→Ed,mem_append_right→EA,not_mem_nil→DJ,mem_flatMap→DK,pairwise_append→EB,length_filter_le→EX,length_range→Ef,map_map→Df,mem_range→DY,mem_cons_self→EY,mem_append_left→Ff,replicate_succ→Fg,flatMap_append→Fh,pairwise_iff_getElem→FY,length_set→EF,take_of_length_le→FZ,getD_eq_getElem?_getD→Gu,nodup_cons→Fp,nodup_append→FH,flatten_cons→FI,ext_getElem?→FJ,filter_append→F1,length_replicate→Gw,getElem?_append_right→G7,mem_of_mem_take→Gy,range_succ→F2,length_nil→F5,find?_cons→F6,pairwise_singleton→Ha,length_eq_zero_iff→Hb,getElem?_replicate→Hc,getElem?_set_self→He,reverse_cons→GA
open PySem.Heap renaming get?_push_of_some→AJ,get?_push_size→Be,size_push→DZ,get?_push_ne→GB
open Nat renaming le_refl→Ap,zero_add→As,le_trans→Az,lt_of_lt_of_le→A6,zero_le→AF,lt_of_le_of_lt→Cb,ne_of_lt→Br,le_of_lt→BB,le_add_right→CA,add_le_add_left→Dt,le_of_eq→BQ,add_comm→Cq,add_lt_add_left→EC,lt_irrefl→Dd,le_of_not_lt→EE,add_assoc→Eh,add_sub_cancel'→FC,succ_le_succ→Fi,lt_of_le_of_ne→FE,not_lt_zero→Fj,min_eq_left→Fk,le_antisymm→Fm,le_add_left→Fo,le_of_lt_succ→FF,lt_of_succ_lt_succ→Gv,add_lt_of_lt_sub→Gx,add_sub_cancel_left→G8,le_of_succ_le_succ→Hd,le_succ→Fs
open Bool renaming false_ne_true→BP,false_eq_true→Du,and_self→De,eq_iff_iff→FK,not_true→Fq,and_eq_true_iff→Gz
open Option renaming map_some→BA,bind_some→Eg
open Int renaming toNat_natCast→Dc
open Array renaming length_toList→Ee,getElem?_eq_getElem→Fe,toList_append→ED,getElem?_toList→Hf
open PySem PySem.Spec PyProof.Rows
open PySem.W renaming Frag→FG
open PySem.W (nsIn keepIn codeIn mg_of mg_none_of fnOf sortI eq_sortI)
def af:type_of% @wpS_bind:=@wpS_bind
def aj:type_of% @wpS_pure:=@wpS_pure
def aW:type_of% @wpS_forRange:=@wpS_forRange
def aZ:type_of% @wpAny_rule:=@wpAny_rule
def aS:type_of% @wpS_mono:=@wpS_mono
def bq:type_of% @wpS_modify:=@wpS_modify
def ax:type_of% @decide_eq_false:=@decide_eq_false
def aA:type_of% @decide_eq_true:=@decide_eq_true
def cg:type_of% @beq_self_eq_true:=@beq_self_eq_true
set_option Elab.async false
set_option linter.all false
set_option maxRecDepth 100000
set_option tactic.hygienic false
set_option maxHeartbeats 0
local macro_rules
 | `(tactic| omega)=>`(tactic| first|with_reducible assumption|with_reducible exact Nat.le_refl _|with_reducible exact Nat.zero_le _|lia|omega +splitDisjunctions)
def uR:=PyProof.Rows.ld_const._auto_3
def M3(h:True:=by first | exact .inl rfl | exact .inr rfl | assumption):True:=h
def Na(h:True:=by first | exact nobehind _ 'z' 'z' | rfl):True:=h
def Nb(h:True:=by intro _;rfl):True:=h
def Nc(h:True:=by with_unfolding_all rfl):True:=h
def Nd(h:True:=by (repeat intro _);rfl):True:=h
def uD:=PyProof.Rows.ld_const._auto_5
namespace L2
abbrev Aw:=Sum Int Str
def Dw:Aw->Value->Bool
 | .inl k,v=>Value.isInt k v
 | .inr x,v=>Value.isStrOf x v
def J5(w:World):Aw->Int
 | .inl k=>hashInt k
 | .inr x=>hashStr w x
theorem bg:∀{k:Aw} {v:Value},Dw k v=true->(∃i t,k=Sum.inl i/\v=Value.int i t)\/(∃x t,k=Sum.inr x/\v=Value.str x t)
 | .inl i,v,h=>by
   obtain⟨t,e⟩:=Value.isInt_shape (k:=i) (v:=v) h;exact .inl ⟨i,t,rfl,e⟩
 | .inr x,v,h=>by
   obtain⟨t,e⟩:=Value.isStrOf_shape (x:=x) (v:=v) h;exact .inr ⟨x,t,rfl,e⟩
def iJ(i:Int)(t:Tok):Dw (.inl i) (.int i t)=true:=by simp[Dw,Value.isInt]
def iK(x:Str)(t:Tok):Dw (.inr x) (.str x t)=true:=by simp[Dw,Value.isStrOf]
def nu(a b:Int):decide ((Sum.inl a:Aw)=Sum.inl b)=(a == b):=by
 by_cases e:a=b
 ·subst e;simp
 ·have h:¬(Sum.inl a:Aw)=Sum.inl b:=λq=>e (Sum.inl.inj q)
  rw[ax h];exact(beq_eq_false_iff_ne.mpr e).symm
def nv(a b:Str):decide ((Sum.inr a:Aw)=Sum.inr b)=decide (a=b):=by
 by_cases e:a=b
 ·subst e;simp
 ·have h:¬(Sum.inr a:Aw)=Sum.inr b:=λq=>e (Sum.inr.inj q)
  rw[ax h,ax e]
def nw(a:Int)(b:Str):decide ((Sum.inl a:Aw)=Sum.inr b)=false:=ax (λq=>nomatch q)
def ny(a:Str)(b:Int):decide ((Sum.inr a:Aw)=Sum.inl b)=false:=ax (λq=>nomatch q)
def BR(prog:Program)(w:World):PySem.KeyKind prog w Aw where
 is:=Dw
 hash:=J5 w
 inj:=λv a b ha hb=>by
  rcases bg ha with⟨i,t,rfl,rfl⟩ | ⟨x,t,rfl,rfl⟩
  ·rcases bg hb with⟨j,u,rfl,e⟩ | ⟨y,u,rfl,e⟩
   ·injection e with e1 _;rw[e1]
   ·exact nomatch e
  ·rcases bg hb with⟨j,u,rfl,e⟩ | ⟨y,u,rfl,e⟩
   ·exact nomatch e
   ·injection e with e1 _;rw[e1]
 byValue:=λk v h=>by
  rcases bg h with⟨i,t,rfl,rfl⟩ | ⟨x,t,rfl,rfl⟩<;>rfl
 pyHash:=λhv h=>by
  rcases bg hv with⟨i,t,rfl,rfl⟩ | ⟨x,t,rfl,rfl⟩
  ·exact wpAny_pyHash_int h
  ·exact wpAny_pyHash_str h
 eqBool:=λhu hv h=>by
  rcases bg hu with⟨i,t,rfl,rfl⟩ | ⟨x,t,rfl,rfl⟩
  ·rcases bg hv with⟨j,u,rfl,rfl⟩ | ⟨y,u,rfl,rfl⟩
   ·rw[nu] at h;exact wpAny_eqBool_int h
   ·rw[nw] at h;exact SeqAt.EqAt.int_str i t y u _ _ _ _ h
  ·rcases bg hv with⟨j,u,rfl,rfl⟩ | ⟨y,u,rfl,rfl⟩
   ·rw[ny] at h;exact SeqAt.EqAt.str_int x t j u _ _ _ _ h
   ·rw[nv] at h;exact wpAny_eqBool_str h
 «strs»:=λk x t v h=>by
  rcases bg h with⟨i,u,rfl,e⟩ | ⟨y,u,rfl,e⟩
  ·exact nomatch e
  ·injection e with e1 _
   subst e1;cases v<;>rfl
def nz(prog:Program)(w:World)(i:Int)(t:Tok):(BR prog w).is (.inl i) (.int i t)=true:=iJ i t
def nA(prog:Program)(w:World)(x:Str)(t:Tok):(BR prog w).is (.inr x) (.str x t)=true:=iK x t
set_option genInjectivity true in
inductive Al where
 | inl (i:Int) | inr (x:Str) | t (l:List Aw)
 deriving DecidableEq
def FL(prog:Program)(w:World):Al->Int
 | .inl i=>(BR prog w).hash (.inl i)
 | .inr x=>(BR prog w).hash (.inr x)
 | .t l=>tupleKeyHash (BR prog w) l
def HP:Al->Nat
 | .t l=>l.length+1
 | _=>1
def Cd(prog:Program)(w:World)(h:Heap):Al->Value->Prop
 | .inl i,v=>Dw (.inl i) v=true
 | .inr x,v=>Dw (.inr x) v=true
 | .t l,v=>∃b,v=.ref b/\IsTupleKey (BR prog w) h l b
def Dh(prog:Program)(w:World)(h:Heap)(ks:List Al)(a:Addr):Prop:=∃o items n,h.get? a=some o/\o.cls=.type "tuple"/\o.data=.seq items n/\Paired (Cd prog w h) ks items.toList
def Dh.typeIs{s:Shared}{b:List Al}{a:Addr}(x:Dh prog w s.heap b a):s.TypeIs (.ref a) "tuple":=let ⟨o,_,_,a,c,_⟩:=x;⟨o,a,c⟩
def nB{h:Heap}{x y:Al}{v:Value}(f:Cd prog w h x v)(d:Cd prog w h y v):x=y:=by
 have g:∀{a b:Aw},Dw a v=true->Dw b v=true->a=b:=λp q=>(BR prog w).inj _ _ _ p q
 have h:∀{a:Aw} {c:Addr},Dw a v=true->v=.ref c->False:=λp e=>by
  rcases bg p with⟨_,_,_,e'⟩ | ⟨_,_,_,e'⟩<;>rw[e] at e'<;>cases e'
 cases x<;>cases y<;>simp only[Cd] at f d
 ·have:=g f d;cases this;rfl
 ·have:=g f d;cases this
 ·obtain⟨b,e,_⟩:=d;exact(h f e).elim
 ·have:=g f d;cases this
 ·have:=g f d;cases this;rfl
 ·obtain⟨b,e,_⟩:=d;exact(h f e).elim
 ·obtain⟨b,e,_⟩:=f;exact(h d e).elim
 ·obtain⟨b,e,_⟩:=f;exact(h d e).elim
 ·obtain⟨b,e,q⟩:=f
  obtain⟨c,e',a⟩:=d;rw[e] at e';cases e';rw[q.inj a]
theorem iL{h:Heap}:∀{x y:List Al} {e:List Value},Paired (Cd prog w h) x e->Paired (Cd prog w h) y e->x=y
 | _,_,_,.nil,.nil=>rfl
 | _,_,_,.cons a b,.cons c d=>by rw[nB a c,iL b d]
def nC{h a:Heap}{k:Al}{v:Value}{d:Addr}{o:Obj}{es ep}(x:Cd prog w h k v)(g:h.get? d=some o)(c:o.data=.dict es ep)(f:Heap.SameBut d h a):Cd prog w a k v:=by
 cases k with
 | inl i=>exact x
 | inr i=>exact x
 | t l=>obtain⟨b,e,q⟩:=x;exact{b,e,q.keeps g c f}
def nD{k:Al}{v:Value}{Q:Int->Shared->Prop}(c:A.units<cLine)(h:Cd prog w s.heap k v)(a:Q (FL prog w k) { s with toks:=s.toks+HP k }):wpAny 'r' A (PySem.pyHash v) Q E s:=by
 cases k with
 | inl i=>exact(BR prog w).pyHash (k:=.inl i) h a
 | inr i=>exact(BR prog w).pyHash (k:=.inr i) h a
 | t l=>obtain⟨b,rfl,q⟩:=h;exact wpAny_pyHash_tuple c q a
def nE{x y:Al}{u v:Value}{Q:Bool->Shared->Prop}(g:A.units<cLine)(d:Cd prog w s.heap x u)(c:Cd prog w s.heap y v)(f:Q (decide (x=y)) s):wpAny 'r' A (PySem.eqBool u v) Q E s:=by
 have h:∀{a b:Aw},Dw a u=true->Dw b v=true->Q (decide (a=b)) s->wpAny 'r' A (PySem.eqBool u v) Q E s:=λp q r=>(BR prog w).eqBool p q r
 have j:∀{l:List Aw} {b:Addr},IsTupleKey (BR prog w) s.heap l b->∃a,s.heap.IsTuple b a:=λ⟨o,a,n,i,l,e,_⟩=>⟨a,o,i,l,n,e⟩
 cases x<;>cases y<;>simp only[Cd] at d c
 ·exact h d c (by simpa using f)
 ·exact h d c (by simpa using f)
 ·obtain⟨b,rfl,q⟩:=c
  obtain⟨a,t⟩:=j q;rcases bg d with⟨i,z,_,rfl⟩ | ⟨i,z,e,_⟩
  ·exact SeqAt.EqAt.int_tuple i z t g _ _ _ _ (by simpa using f)
  ·cases e
 ·exact h d c (by simpa using f)
 ·exact h d c (by simpa using f)
 ·obtain⟨b,rfl,q⟩:=c
  obtain⟨a,t⟩:=j q;rcases bg d with⟨i,z,e,_⟩ | ⟨i,z,_,rfl⟩
  ·cases e
  ·exact SeqAt.EqAt.str_tuple i z t g _ _ _ _ (by simpa using f)
 ·obtain⟨b,rfl,q⟩:=d
  obtain⟨a,t⟩:=j q;rcases bg c with⟨i,z,_,rfl⟩ | ⟨i,z,e,_⟩
  ·exact SeqAt.EqAt.tuple_int i z t g _ _ _ _ (by simpa using f)
  ·cases e
 ·obtain⟨b,rfl,q⟩:=d
  obtain⟨a,t⟩:=j q;rcases bg c with⟨i,z,e,_⟩ | ⟨i,z,_,rfl⟩
  ·cases e
  ·exact SeqAt.EqAt.tuple_str i z t g _ _ _ _ (by simpa using f)
 ·obtain⟨b,rfl,q⟩:=d
  obtain⟨e,rfl,a⟩:=c;exact wpAny_eqBool_tuple g q a (by simpa using f)
def HQ(prog:Program)(w:World)(ks:List Al):Int:=reduceHash (Builtin.Tuple.tupleHashOf (ks.map (FL prog w)))
def HR(ks:List Al):Nat:=(ks.map HP).sum+1
def nF{d:List Al}{a:Addr}{Q:Int->Shared->Prop}(b:A.units+1<cLine)(e:Dh prog w s.heap d a)(h:Q (HQ prog w d) { s with toks:=s.toks+HR d }):wpAny 'r' A (PySem.pyHash (.ref a)) Q E s:=by
 have b:=e.typeIs;obtain⟨o,c,n,g,_,f,i⟩:=e;have c:A.units<cLine:=by omega
 delta pyHash;first | delta pyHashByItsType | skip
 first | refine Ac (wpAny_cRoomFor_or (.inr c) ?_) | skip
 refine Ac (wpAny_specialOf b F.slot_tuple_hash.lookup ?_);show wpAny _ _ (if (some (Value.builtin "tuple.__hash__") == some Value.none)=true then _ else _) Q E s;rw[if_neg (by rw[beq_builtin_none];exact BP)];refine Ac (wpAny_specialOf b F.slot_tuple_hash.lookup ?_);show wpAny _ _ (callSpecialIfBoundUnlessNone? (.ref a) "__hash__" _ >>= _) Q E s;refine Ac (wpAny_callSpecialIfBoundUnlessNone?_slot b F.slot_tuple_hash (DX F.slot_tuple_hash b F.entry_tuple_hash ?_ (F.args_tuple_hash_1 _)));show wpAny _ _ (Builtin.Tuple.tupleItemsOf (.ref a) >>= _) _ _ s;refine Ac (wpAny_tupleItemsOf g f ?_);refine Ac ?_;rw[<-Array.forIn_toList];refine wpAny_forIn_list _
  (λa (b:Array Int) s'=>∃done left,d=done++left/\Paired (Cd prog w s.heap) left a/\b.toList=done.map (FL prog w)/\s'={ s with toks:=s.toks+(done.map HP).sum })
  _ ?_ ?_ _ _ {[],d,rfl,i,rfl,rfl}
 ·rintro x a b s' ⟨done,left,rfl,f,e,rfl⟩
  cases f with
  | @cons k _ a _ g c=>
    refine Ac (nD (by rw[Around.in1_units];omega) g ?_);first
     | exact Ao {done++[k],a,'d',c,by simp[e],by simp[Eh]}
     | exact Ac (Ao (Ao {done++[k],a,'d',c,by simp[e],by simp[Eh]}))
 ·rintro b s' ⟨done,left,rfl,f,e,rfl⟩
  cases f;rw[Cp] at h;show wpAny _ _ (retInt (Builtin.Tuple.tupleHashOf b.toList)) _ _ _;rw[e];refine wpAny_ret_mkInt ?_;delta HQ reduceHash HR at h;show wpAny _ _ (if (decide (-(2:Int) ^ 63<=Builtin.Tuple.tupleHashOf (done.map (FL prog w)))&&decide (Builtin.Tuple.tupleHashOf (done.map (FL prog w))<2 ^ 63))=true then _ else _) Q E _;by_cases a:(decide (-(2:Int) ^ 63<=Builtin.Tuple.tupleHashOf (done.map (FL prog w)))&&decide (Builtin.Tuple.tupleHashOf (done.map (FL prog w))<2 ^ 63))=true
  ·rw[if_pos a]
   rw[if_pos a] at h;exact Ao (by simpa [Eh] using h)
  ·rw[if_neg a]
   rw[if_neg a] at h;exact Ac (aZ (Ao (by simpa [Eh] using h)))
def nG{x y:List Al}{a b:Addr}{P:Fin->Shared->Prop}(C:A.units<cLine)(g:Dh prog w s.heap x a)(j:Dh prog w s.heap y b)(h:P (.done (.ret (.bool (decide (x=y))))) s) :
 wpAny 'r' A (Builtin.«tuple.__eq__» {[.ref a,.ref b],[]}) P E s:=by
 have a:=j.typeIs;obtain⟨c,A,f,i,_,d,e⟩:=g;obtain⟨l,p,m,c,_,f,g⟩:=j;show wpAny _ _ (isInstance (.ref b) (.type "tuple") >>= _) _ _ s;refine Ac (wpAny_isInstance a isSubtype_tuple_tuple ?_);simp only[Fq,Du,if_false];refine Ac (wpAny_tupleItemsOf i d ?_);refine Ac (wpAny_tupleItemsOf c f ?_);refine Ac ?_;refine wpAny_forIn_list _
  (λa r s'=>r.1=none/\s'=s/\∃z q d c,a=List.zip d c/\Paired (Cd prog w s.heap) z d/\Paired (Cd prog w s.heap) q c/\decide (z=q)=decide (x=y)/\(d.length == c.length)=(A.size == p.size))
  _ ?_ ?_ _ _ {rfl,rfl,x,y,A.toList,p.toList,rfl,e,g,rfl,'d'}
 ·rintro ⟨u,v⟩ a r s' ⟨s,rfl,z,q,d,c,g,f,e,a,b⟩
  cases f with
  | nil=>simp at g
  | @cons u u' l m B o=>
    cases e with
    | nil=>simp at g
    | @cons v v' j n E i=>
      simp only[List.zip_cons_cons,List.cons.injEq,Prod.mk.injEq] at g;obtain⟨⟨rfl,rfl⟩,rfl⟩:=g;refine Ac (nE (x:=u) (y:=v) C B E ?_);by_cases r:u=v
      ·subst r
       rw[aA rfl];simp only[Fq,Du,if_false];refine Ao {rfl,rfl,l,j,m,n,rfl,o,i,?_,by simpa using b};rw[<-a];by_cases i:l=j
       ·simp[i]
       ·simp[i]
      ·rw[ax r]
       simp only[Bool.not_false,if_true];have i:decide (x=y)=false:=by rw[<-a];simp[r]
       rw[i] at h;exact Ac (Ao (Ao (Ao h)))
 ·rintro ⟨j,i⟩ s' ⟨s,rfl,z,q,d,c,g,f,e,a,b⟩
  simp only at s;subst s;refine Ao ?_;have c:(A.size == p.size)=decide (x=y):=by
   rw[<-a,<-b];cases f with
   | nil=>
     cases e with
     | nil=>simp
     | cons _ _=>simp
   | cons _ _=>
     cases e with
     | nil=>simp
     | cons _ _=>simp at g
  show P (.done (.ret (.bool (A.size == p.size)))) s';rw[c];exact h
def Dh.inj{h:Heap}{x y:List Al}{a:Addr}(d:Dh prog w h x a)(f:Dh prog w h y a):x=y:=by
 obtain⟨o,a,n,g,_,e,h⟩:=d;obtain⟨o',b,i,c,_,a,d⟩:=f;obtain rfl:o=o':=Option.some.inj (g.symm.trans c);rw[e] at a;injection a with h1 _
 subst h1;exact iL h d
def nH{x y:List Al}{a b:Addr}{Q:Bool->Shared->Prop}(c:A.units+1<cLine)(d:Dh prog w s.heap x a)(f:Dh prog w s.heap y b)(h:Q (decide (x=y)) s) :
 wpAny 'r' A (PySem.eqBool (.ref a) (.ref b)) Q E s:=by
 delta PySem.eqBool;try with_reducible refine wpAny_holding ?_
 show wpAny _ _ (if (Value.ref a == Value.ref b)=true then _ else _) Q E s;by_cases c:(Value.ref a == Value.ref b)=true
 ·rw[if_pos c]
  have e:a=b:=by have:=eq_of_beq c;injection this
  subst e;obtain rfl:=d.inj f;exact Ac (aZ (Ao (by simpa using h)))
 ·rw[if_neg c]
  exact Ac (wpAny_richCompare_same_room (op:=.Eq) d.typeIs f.typeIs F.slot_tuple_eq
   (DX F.slot_tuple_eq d.typeIs F.entry_tuple_eq (nG (by rw[Around.in1_units];omega) d f {_,rfl,(λe=>nomatch e),Ec h}) (F.args_tuple_eq_2 _ _)) 'o')
def nI{p:List Aw}{a:Addr}{n:Nat}{Q:Bool->Shared->Prop}(i:IsTupleKey (BR prog w) s.heap p a)(h:Q true s):wpAny 'r' A (eqIsQuiet (n+1) (.ref a)) Q E s:=by
 have g:=i.typeIs;obtain⟨o,d,m,l,_,j,q⟩:=i;unfold eqIsQuiet;refine Ac (wpAny_specialOf g F.slot_tuple_eq.lookup ?_);show wpAny _ _ (isInstance (.ref a) (.type "tuple") >>= _) _ _ s;refine Ac (wpAny_isInstance g isSubtype_tuple_tuple ?_);simp only[Fq,Du,if_false];refine Ac (Ez l j ?_);refine Ac ?_;show wpAny _ _ (forIn d _ _) _ _ s;rw[<-Array.forIn_toList];refine wpAny_forIn_list _ (λb r s'=>r.1=none/\s'=s/\∀v∈b,carriedByValue v=true) _ ?_ ?_ _ _ ⟨rfl,rfl,q.byValue⟩
 ·rintro v b r s' ⟨f,rfl,c⟩
  rw[eqIsQuiet_byValue _ (c v EY)];refine Ac (Ao ?_);simp only[Fq,Du,if_false];exact Ao {rfl,rfl,λu e=>c u (Ed _ e)}
 ·rintro ⟨y,x⟩ s' ⟨f,rfl,_⟩
  simp only at f;subst f;exact Ao h
def nJ{k:Al}{v:Value}{n:Nat}{Q:Bool->Shared->Prop}(a:Cd prog w s.heap k v)(h:Q true s):wpAny 'r' A (eqIsQuiet (n+1) v) Q E s:=by
 have c:∀{k:Aw},Dw k v=true->wpAny 'r' A (eqIsQuiet (n+1) v) Q E s:=λz=>by
  rw[eqIsQuiet_byValue _ ((BR prog w).byValue _ _ z)];exact Ao h
 cases k with
 | inl i=>exact c a
 | inr i=>exact c a
 | t l=>obtain⟨b,rfl,q⟩:=a;exact nI q h
def nK{i:List Al}{a:Addr}{Q:Bool->Shared->Prop}(g:Dh prog w s.heap i a)(h:Q true s):wpAny 'r' A (eqIsQuiet 8 (.ref a)) Q E s:=by
 have f:=g.typeIs;obtain⟨o,c,m,p,_,j,q⟩:=g;unfold eqIsQuiet;refine Ac (wpAny_specialOf f F.slot_tuple_eq.lookup ?_);show wpAny _ _ (isInstance (.ref a) (.type "tuple") >>= _) _ _ s;refine Ac (wpAny_isInstance f isSubtype_tuple_tuple ?_);simp only[Fq,Du,if_false];refine Ac (Ez p j ?_);refine Ac ?_;show wpAny _ _ (forIn c _ _) _ _ s;rw[<-Array.forIn_toList];refine wpAny_forIn_list _ (λb r s'=>r.1=none/\s'=s/\∃left,Paired (Cd prog w s.heap) left b) _ ?_ ?_ _ _ ⟨rfl,rfl,i,q⟩
 ·rintro v b r s' ⟨e,rfl,left,d⟩
  cases d with
  | cons l d=>
    refine Ac (nJ (n:=6) l ?_);simp only[Fq,Du,if_false];exact Ao {rfl,rfl,_,d}
 ·rintro ⟨x,u⟩ s' ⟨e,rfl,_⟩
  simp only at e;subst e;exact Ao h
theorem iM{h a:Heap}{d:Addr}{o:Obj}{es ep}(i:h.get? d=some o)(c:o.data=.dict es ep)(g:Heap.SameBut d h a):∀{e:List Al} {f:List Value},Paired (Cd prog w h) e f->Paired (Cd prog w a) e f
 | _,_,.nil=>.nil
 | _,_,.cons a b=>.cons (nC a i c g) (iM i c g b)
def Dh.keeps{h c:Heap}{i:List Al}{a d:Addr}{o:Obj}{es ep}(x:Dh prog w h i a)(l:h.get? d=some o)(j:o.data=.dict es ep)(g:Heap.SameBut d h c):Dh prog w c i a:=by
 obtain⟨o',b,n,e,m,c,h⟩:=x;have f:a≠d:=by
  rintro rfl;obtain rfl:o'=o:=Option.some.inj (e.symm.trans l);rw[j] at c;exact nomatch c
 exact{o',b,n,(g.2 a f).trans e,m,c,iM l j g h}
def EN(prog:Program)(w:World):HeapKind prog w (List Al) where
 is:=Dh prog w
 hash:=HQ prog w
 draws:=HR
 room:=λA=>A.units+1<cLine
 inj:=λhx hy=>hx.inj hy
 keeps:=λx ho hd hs=>x.keeps ho hd hs
 pyHash:=λhu hk h=>nF hu hk h
 eqBool:=λhu hx hy h=>nH hu hx hy h
 quiet:=λhk h=>nK hk h
set_option genInjectivity true in
inductive V where
 | non | bl (b:Bool) | int (i:Int) | str (x:Str) | byt (b:Array UInt8) | flt (b:UInt64) | ref (a:Addr) | ty (n:String)
 deriving DecidableEq
def Am:V->Value->Prop
 | .non,u=>u=Value.none
 | .bl b,u=>u=Value.bool b
 | .int i,u=>∃t,u=Value.int i t
 | .str x,u=>∃t,u=Value.str x t
 | .byt b,u=>∃t,u=Value.bytes b t
 | .flt b,u=>∃t,u=Value.float b t
 | .ref a,u=>u=Value.ref a
 | .ty n,u=>u=Value.type n
abbrev Aq:List V->List Value->Prop:=Paired Am
def Aq.length{a:List V}{us:List Value}(r:Aq a us):a.length=us.length:=Paired.length r
theorem Aq.get:∀{a:List V} {us:List Value} {i:Nat} {x:V},Aq a us->a[i]?=some x->∃u,us[i]?=some u/\Am x u
 | _,_,_,_,.nil,e=>by simp at e
 | _,_,0,_,.cons r _,e=>by simp at e;subst e;exact{_,rfl,r}
 | _,_,i+1,x,.cons _ t,e=>by
   obtain⟨u,c,b⟩:=Aq.get (i:=i) (x:=x) t (by simpa using e);exact{u,by simpa using c,b}
theorem Aq.set(r:Am x u):∀{a:List V} {us:List Value} (i:Nat),Aq a us->Aq (a.set i x) (us.set i u)
 | _,_,_,.nil=>.nil
 | _,_,0,.cons _ t=>.cons r t
 | _,_,i+1,.cons q t=>.cons q (Aq.set r i t)
theorem Aq.append:∀{b a:List V} {us c:List Value},Aq b us->Aq a c->Aq (b++a) (us++c)
 | _,_,_,_,.nil,s=>s
 | _,_,_,_,.cons r t,s=>.cons r (Aq.append t s)
theorem Aq.take:∀{a:List V} {us:List Value} (n:Nat),Aq a us->Aq (a.take n) (us.take n)
 | _,_,0,_=>.nil
 | _,_,_+1,.nil=>.nil
 | _,_,n+1,.cons r t=>.cons r (Aq.take n t)
theorem Aq.drop:∀{a:List V} {us:List Value} (n:Nat),Aq a us->Aq (a.drop n) (us.drop n)
 | _,_,0,r=>r
 | _,_,_+1,.nil=>.nil
 | _,_,n+1,.cons _ t=>Aq.drop n t
def DP:Option V->Option Value->Prop
 | some v,some u=>Am v u
 | none,none=>True
 | _,_=>False
instance KV{L:Type}:List (L×V)->List (L×Value)->Prop:=Paired λ(p:L×V) (q:L×Value)=>p.1=q.1/\Am p.2 q.2
instance kV:Aw->V
 | .inl i=>.int i
 | .inr x=>.str x
inductive HO where
 /-- a list -/
 | lst (xs:List V)
 /-- a tuple (never changes) -/
 | tup (xs:List V)
 /-- a dict whose keys are ints and texts;one whose keys are tuples of ints and texts (the empty one is both) -/
 | dK (kvs:List (Aw×V)) | dT (kvs:List (List Al×V))
 /-- a set of ints: its members,its size -/
 | set (S:Int->Bool) (n:Nat)
 /-- an instance of the class at C,its dict at dx,its attributes -/
 | ins (C dx:Addr) (fs:List (Str×V))
 /-- the dict of the instance at x -/
 | own (x:Addr)
 /-- the dict of an exception -/
 | xd (fs:List (Str×V))
 /-- a bound method,f of x -/
 | met (f x:Addr)
 /-- a range object lo,lo+1,.. below hi -/
 | rng (lo hi:Int)
 /-- a thing that is known to the object (the script;a dict while a loop walks it): read,never written while it is so -/
 | frz (o:Obj) (u:HO)
 /-- a code object's table -/
 | tbl (ps:Array Value)
 /-- any other thing,by what is true of its one object (a def of one's own: SetO a S n:=HO.ext λh=>..) -/
 | ext (φ:Heap->Prop)
abbrev Hp:=Addr->Option HO
def Ag(H:Hp)(a:Addr)(o:HO):Hp:=λb=>if b=a then some o else H b
instance KIs(H:Hp):Al->V->Prop
 | .inl i,v=>v=.int i
 | .inr x,v=>v=.str x
 | .t l,v=>∃b,v=.ref b/\H b=some (.tup (l.map kV))
def C4(H:Hp)(b:Addr)(k:List Al):Prop:=∃vs,H b=some (.tup vs)/\Paired (KIs H) k vs
theorem nL{H a:Hp}(d:∀b c,H b=some (.tup c)->a b=some (.tup c)):∀{k:Al} {v:V},KIs H k v->KIs a k v
 | .inl _,_,h=>h
 | .inr _,_,h=>h
 | .t _,_,⟨b,e,q⟩=>{b,e,d _ _ q}
theorem iN{H a:Hp}(c:∀b e,H b=some (.tup e)->a b=some (.tup e)):∀{k:List Al} {d:List V},Paired (KIs H) k d->Paired (KIs a) k d
 | _,_,.nil=>.nil
 | _,_,.cons a b=>.cons (nL c a) (iN c b)
def C4.keeps{H d:Hp}(c:∀b a,H b=some (.tup a)->d b=some (.tup a)){b:Addr}{k:List Al}(h:C4 H b k):C4 d b k:=
 let ⟨f,e,q⟩:=h;{f,c _ _ e,iN c q}
def aw:Ag H a o a=some o:=by delta Ag;rw[if_pos rfl]
def ah(h:b≠a):Ag H a o b=H b:=by delta Ag;rw[if_neg h]
open H in
def upd_upd:Ag (Ag H a o) a u=Ag H a u:=by
 funext b;delta Ag;split<;>rfl
def ci{H:Hp}{a b:Addr}{o u:HO}(h:H a=some o)(c:H b=some u)(d:o≠u):a≠b:=by
 intro e;subst e;rw[h] at c;exact d (Option.some.inj c)
def ay{H:Hp}{a b:Addr}{o:HO}(h:H a=some o)(c:H b=none):a≠b:=by
 intro e;subst e;rw[h] at c;cases c
section
variable(P:Program)(w:World)
instance NoD(h:Heap)(a:Addr):Prop:=∃o,h.get? a=some o/\o.dict=none
def Bv(H:Hp)(h:Heap)(a:Addr):HO->Prop
 | .lst xs=>xs.length<=sizeLine/\∃(its:List Value) (n:Nat),Aq xs its/\h.get? a=some { cls:=.type "list",data:=.seq its.toArray n }
 | .tup xs=>xs.length<=sizeLine/\∃its:List Value,Aq xs its/\IsTup h a its.toArray/\NoD h a
 | .dK kvs=>kvs.length<=sizeLine/\(a == sysModules)=false/\∃vs,KV kvs vs/\h.DictOf (BR P w) a vs
 | .dT kvs=>kvs.length<=sizeLine/\(a == sysModules)=false/\∃xs:List (List Al×Addr×Value),
  Paired (λ(p:List Al×V) (q:List Al×Addr×Value)=>p.1=q.1/\C4 H q.2.1 p.1/\Am p.2 q.2.2) kvs xs/\
  ∃o es ep,h.get? a=some o/\o.ExactDict/\o.data=.dict es ep/\es.toList=xs.map (entryOfKey (EN P w))/\(xs.map (·.1)).Nodup
 | .set S n=>h.SetOf (intKind P w) a S n
 | .ins C dx fs=>H dx=some (.own a)/\fs.length<=1000/\dx≠a/\h.get? a=some (PySem.W.instObj C dx)/\
  ∃mA,h.Ns1 dx mA/\(∀f,DP (fs.lookup f) (mA f))/\PySem.Within mA (fs.map (·.1))
 | .own _=>∃o,h.get? a=some o
 | .xd fs=>∃mA,h.Ns1 a mA/\∀f,DP (fs.lookup f) (mA f)
 | .rng lo hi=>∃t u v,h.get? a=some { cls:=.type "range",data:=.fields #[.int lo t,.int hi u,.int 1 v] }
 | .frz o u=>h.get? a=some o/\Bv H h a u
 | .tbl ps=>h.get? a=some { cls:=.none,data:=.fields ps }
 | .met f x=>h.get? a=some (PySem.W.methodObj (.ref f) (.ref x))
 | .ext φ=>φ h/\(∃o,h.get? a=some o)/\∀h1 h2:Heap,φ h1->(∀o,h1.get? a=some o->h2.get? a=some o)->φ h2
def Bo(H:Hp)(h:Heap):Prop:=∀a o,H a=some o->Bv P w H h a o
end
theorem Bv.lt(x:Bv P w H h a o):a<h.objs.size:=by
 cases o with
 | lst b=>obtain⟨_,_,_,_,e⟩:=x;exact Heap.lt_size e
 | tup b=>obtain⟨_,_,_,p,_⟩:=x;exact p.lt
 | dK b=>obtain⟨_,_,_,_,o,_,_,e,_⟩:=x;exact Heap.lt_size e
 | dT b=>obtain⟨_,_,_,_,o,_,_,e,_⟩:=x;exact Heap.lt_size e
 | set S n=>obtain⟨o,_,_,_,e,_⟩:=x;exact Heap.lt_size e
 | ins C dx b=>obtain⟨_,_,_,e,_⟩:=x;exact Heap.lt_size e
 | own y=>obtain⟨_,e⟩:=x;exact Heap.lt_size e
 | xd b=>obtain⟨_,⟨_,_,_,e,_⟩,_⟩:=x;exact Heap.lt_size e
 | rng b c=>obtain⟨_,_,_,e⟩:=x;exact Heap.lt_size e
 | frz b u=>obtain⟨e,_⟩:=x;exact Heap.lt_size e
 | tbl b=>exact Heap.lt_size (show h.get? a=some _ from x)
 | met f y=>exact Heap.lt_size (show h.get? a=some _ from x)
 | ext φ=>obtain⟨_,⟨_,e⟩,_⟩:=x;exact Heap.lt_size e
theorem Paired.mapP{α β:Type}{F G:α->β->Prop}:∀{c:List α} {d:List β},Paired F c d->(∀a b,F a b->G a b)->Paired G c d
 | _,_,.nil,_=>.nil
 | _,_,.cons r t,f=>.cons (f _ _ r) (Paired.mapP t f)
theorem Bv.stay(x:Bv P w H h a o)(k:∀b u,(b=a\/H b=some (.own a))->h.get? b=some u->h'.get? b=some u)(m:∀b,H b=some (.own a)->H' b=some (.own a))(l:∀b g,H b=some (.tup g)->H' b=some (.tup g)):Bv P w H' h' a o:=by
 induction o with
 | lst g=>obtain⟨z,d,n,r,e⟩:=x;exact{z,d,n,r,k _ _ (.inl rfl) e}
 | tup g=>obtain⟨z,d,r,⟨b,e,c⟩,i,j,f⟩:=x;exact{z,d,r,{b,k _ _ (.inl rfl) e,c},i,k _ _ (.inl rfl) j,f}
 | dK d=>obtain⟨z,y,p,r,b,es,f,e,c⟩:=x;exact{z,y,p,r,b,es,f,k _ _ (.inl rfl) e,c}
 | dT d=>
   obtain⟨z,y,g,r,b,es,f,e,c⟩:=x;exact{z,y,g,Paired.mapP r λp q z=>{z.1,z.2.1.keeps l,z.2.2},b,es,f,k _ _ (.inl rfl) e,c}
 | set S n=>obtain⟨b,es,f,t,e,c⟩:=x;exact{b,es,f,t,k _ _ (.inl rfl) e,c}
 | ins C dx l=>
   obtain⟨d,z,n,e,mA,⟨i,es,f,j,c⟩,r⟩:=x;exact{m _ d,z,n,k _ _ (.inl rfl) e,mA,{i,es,f,k _ _ (.inr d) j,c},r}
 | own y=>obtain⟨b,e⟩:=x;exact{b,k _ _ (.inl rfl) e}
 | xd l=>obtain⟨mA,⟨i,es,f,e,c⟩,r⟩:=x;exact{mA,{i,es,f,k _ _ (.inl rfl) e,c},r}
 | rng d f=>obtain⟨t,u,v,e⟩:=x;exact{t,u,v,k _ _ (.inl rfl) e}
 | frz b u c=>obtain⟨e,q⟩:=x;exact{k _ _ (.inl rfl) e,c q}
 | tbl b=>
   have e:h.get? a=some { cls:=.none,data:=.fields b }:=x;show h'.get? a=some { cls:=.none,data:=.fields b };exact k a _ (.inl rfl) e
 | met f y=>
   have e:h.get? a=some (PySem.W.methodObj (.ref f) (.ref y)):=x;show h'.get? a=some (PySem.W.methodObj (.ref f) (.ref y));exact k a _ (.inl rfl) e
 | ext φ=>obtain⟨p,⟨o,e⟩,a⟩:=x;exact{a _ _ p λo q=>k _ _ (.inl rfl) q,{o,k _ _ (.inl rfl) e},a}
def Bo.lt(x:Bo P w H h)(e:H a=some o):a<h.objs.size:=(x a o e).lt
theorem Bo.fresh(x:Bo P w H h)(e:h.objs.size<=a):H a=none:=by
 cases q:H a with
 | none=>rfl
 | some u=>exact absurd (A6 (x.lt q) e) (Dd _)
def Bo.kept(x:Bo P w H h)(k:∀b u,h.get? b=some u->h'.get? b=some u):Bo P w H h':=λa o e=>
 (x a o e).stay (λb u _ q=>k b u q) (λ_ q=>q) λ_ _ q=>q
def Bo.laid(x:Bo P w H h)(k:∀b u,h.get? b=some u->h'.get? b=some u)(g:h.objs.size<=a)(c:Bv P w (Ag H a o) h' a o):Bo P w (Ag H a o) h':=λb u e=>by
 have f:=x.fresh g;by_cases d:b=a
 ·subst d;rw[aw] at e;cases e;exact c
 ·rw[ah d] at e
  exact(x b u e).stay (λc v _ q=>k c v q) (λc q=>by rw[ah (ay q f)];exact q) λc a q=>by rw[ah (ay q f)];exact q
instance Rd(H:Hp)(a:Addr)(u:HO):Prop:=H a=some u\/∃o,H a=some (.frz o u)
def Rd.ok(r:Rd H a u)(x:Bo P w H h):Bv P w H h a u:=by
 rcases r with r | ⟨o,r⟩
 ·exact x a u r
 ·obtain⟨_,q⟩:=x a _ r
  exact q
instance Mut:Option HO->Prop
 | some (.lst _)=>True
 | some (.dK _)=>True
 | some (.dT _)=>True
 | some (.set _ _)=>True
 | some (.ins _ _ _)=>True
 | some (.ext _)=>True
 | _=>False
def Bo.write(m:Bo P w H h)(a:Mut (H x))(l:e=x\/H e=some (.own x))(k:∀b u,b≠e->h.get? b=some u->h'.get? b=some u)(i:∃u,h'.get? e=some u)(j:Bv P w (Ag H x o') h' x o'):Bo P w (Ag H x o') h':=λb u q=>by
 have d:∀c y,H c=some (.own y)->c≠x:=λc y r z=>by subst z;rw[r] at a;exact a
 have f:∀c h,H c=some (.tup h)->c≠x:=λc h r z=>by subst z;rw[r] at a;exact a
 by_cases g:b=x
 ·subst g;rw[aw] at q;cases q;exact j
 ·rw[ah g] at q
  by_cases a:b=e
  ·have j:H b=some (.own x):=by
    rcases l with z | z
    ·exact absurd (a.trans z) g
    ·rw[a];exact z
   rw[q] at j;cases j;obtain⟨v,e⟩:=i;exact{v,by rw[a];exact e}
  ·refine(m b u q).stay (λc v e r=>k c v ?_ r) (λc r=>by rw[ah (d c b r)];exact r) λc h r=>by rw[ah (f c h r)];exact r
   rcases e with rfl | e
   ·exact a
   ·rintro rfl
    rcases l with z | z
    ·exact d c b e z
    ·rw[e] at z;cases z;exact g rfl
structure Un(fs ex:List Addr)(H H':Hp)(h h':Heap):Prop where
 keep:∀b o,h.get? b=some o->H b=none->b∉fs->b∉ex->h'.get? b=some o
 slot:∀b o,h.get? b=some o->H b=none->b∈fs->b∉ex->∃sl,h'.get? b=some { o with slots:=sl }
 free:∀b o,h.get? b=some o->H b=none->b∉ex->H' b=none
 there:∀b o,h.get? b=some o->b∉ex->∃o',h'.get? b=some o'
 tups:∀b xs,H b=some (.tup xs)->H' b=some (.tup xs)
 frzs:∀b o u,H b=some (.frz o u)->H' b=some (.frz o u)
 tbls:∀b ps,H b=some (.tbl ps)->∃more,H' b=some (.tbl (ps++more))
def Un.any(u:Un fs ex H H1 h h1){b:Addr}{a:Obj}(q:h.get? b=some a)(n:H b=none)(d:b∉ex):∃e,h1.get? b=some { a with slots:=e }:=by
 by_cases c:b∈fs
 ·exact u.slot b a q n c d
 ·exact{a.slots,u.keep b a q n c d}
def Un.kept(k:∀b u,h.get? b=some u->h'.get? b=some u):Un fs ex H H h h':=
 {λb a q _ _ _=>k b a q,λb a q _ _ _=>{a.slots,k b a q},λ_ _ _ n _=>n,λb a q _=>{a,k b a q},λ_ _ q=>q,λ_ _ _ q=>q,λ_ a q=>{#[],by rw[q];simp}}
def Un.refl:Un fs ex H H h h:=Un.kept λ_ _ q=>q
def Un.laid(k:∀b u,h.get? b=some u->h'.get? b=some u)(d:h.objs.size<=a)(c:H a=none):Un fs ex H (Ag H a o) h h' where
 keep:=λb u q _ _ _=>k b u q
 slot:=λb u q _ _ _=>{u.slots,k b u q}
 free:=λb u q n _=>by rw[ah (Br (A6 (Heap.lt_size q) d))];exact n
 there:=λb u q _=>{u,k b u q}
 tups:=λb a q=>by rw[ah (ay q c)];exact q
 frzs:=λb u a q=>by rw[ah (ay q c)];exact q
 tbls:=λb a q=>{#[],by rw[ah (ay q c),q];simp}
def Un.write(a:Mut (H x))(c:e=x\/H e=some (.own x))(k:∀b u,b≠e->h.get? b=some u->h'.get? b=some u)(d:∃u,h'.get? e=some u):Un fs ex H (Ag H x o) h h':=by
 have g:∀b,H b=none->b≠x:=λb n z=>by subst z;rw[n] at a;exact a
 have f:∀b,H b=none->b≠e:=λb n z=>by
  subst z;rcases c with r | r
  ·exact g b n r
  ·rw[n] at r;cases r
 have c:∀b u,H b=some u->¬Mut (some u)->b≠x:=λb u q h z=>by subst z;rw[q] at a;exact h a
 refine{λb u q n _ _=>k b u (f b n) q,λb u q n _ _=>{u.slots,k b u (f b n) q},λb u q n _=>by rw[ah (g b n)];exact n,λb u q _=>?_,
  λb a q=>by rw[ah (c b _ q λz=>z)];exact q,λb u a q=>by rw[ah (c b _ q λz=>z)];exact q,λb a q=>{#[],by rw[ah (c b _ q λz=>z),q];simp}}
 by_cases a:b=e
 ·subst a;exact d
 ·exact{u,k b u a q}
instance trk(h:Heap)(H:Hp):List Addr:=(List.range h.objs.size).filter λa=>(H a).isSome
def EZ(h:Heap)(H:Hp):Heap:=PySem.W.hideAll h (trk h H)
def nM(h:Heap)(H:Hp):(EZ h H).objs.size=h.objs.size:=PySem.W.hideAll_size _ _
def nN(e:h.get? b=some o)(n:H b=none):(EZ h H).get? b=some o:=
 PySem.W.hideAll_get _ e λa=>by
  have q:(H b).isSome=true:=(List.mem_filter.mp a).2;rw[n] at q;simp at q
def nO(e:(EZ h H).get? b=some o):h.get? b=some o/\H b=none:=by
 have e':h.get? b=some o:=PySem.W.of_hideAll (trk h H) e;refine{e',?_};cases q:H b with
 | none=>rfl
 | some x=>
   have a:b∈trk h H:=List.mem_filter.mpr {DY.mpr (Heap.lt_size e'),by simp[q]};have z:(EZ h H).get? b=none:=PySem.W.hideAll_none (trk h H) a;rw[z] at e;cases e
structure Mod(K:FG)(mg:Str->Option Value)(base:Heap):Prop where
 kin:K.In base
 glob:base.Ns mainGlobals mg
 blt:∃mb,base.Ns builtinsNs mb/\∀x:Str,x≠"__name__"->mb x=bootBuiltins x
 nolimit:base.NoLimit
structure Cx where
 prog:Program
 w:World
 K:FG
 mg:Str->Option Value
 base:Heap
 A:Around
 N:List Str
 s₀:Shared
 H₀:Hp
 env:Env
 outer:List Env
 stack:List Env
 ex:List Addr
 fn:Str->Bool
 calm:Bool
 pn:List 'p'
 xe:Value->Shared->Prop
def EG(l:List Env):List Addr:=l.filterMap (·.frame)
abbrev Cx.fs(X:Cx):List Addr:=EG X.outer
instance Vis(sc:Scope)(x:Str):Prop:=sc.names.lookup x=some .local\/sc.names.lookup x=some .cell\/sc.names.lookup x=some .free
instance Loc(sc:Scope)(x:Str):Prop:=sc.names.lookup x=some .local\/sc.names.lookup x=some .cell
def J6(env:Env)(h:Heap)(m:Str->Option Value)(x:Str)(u:Value):Prop:=
 (env.kindOf x=some .local/\m x=some u)\/((env.kindOf x=some .cell\/env.kindOf x=some .free)/\∃c,env.cells.lookup x=some c/\h.IsCell c (some u))
structure Cx.Ok(X:Cx):Prop where
 mod:Mod X.K X.mg X.base
 kind:X.env.scope.kind=.function
 glob:X.env.globals=mainGlobals
 blt:X.env.builtins=builtinsNs
 above:X.s₀.heap.objs.size<=X.env.locals
 inj:∀x y c,X.env.cells.lookup x=some c->X.env.cells.lookup y=some c->x=y
 has:∀x,(X.env.kindOf x=some .cell\/X.env.kindOf x=some .free)->∃c,X.env.cells.lookup x=some c
 cab:∀x c,X.fn x=true->X.env.cells.lookup x=some c->X.s₀.heap.objs.size<=c
 hd:X.calm=true->X.A.handled=none
 frames:X.A.frames=some X.stack
 stk:X.stack=X.outer\/(X.stack=X.env::X.outer/\X.env.frame=some X.env.locals)
 exf:∀b∈X.ex,b≠X.env.locals/\∀x c,X.env.cells.lookup x=some c->c≠b
 bs:∀b o,X.base.get? b=some o->X.s₀.heap.get? b=some o/\X.H₀ b=none
 bsz:X.base.objs.size<=X.s₀.heap.objs.size
 noex:∀b o,X.base.get? b=some o->b∉X.ex
 exfs:∀b∈X.ex,b∉X.fs
 funs:X.s₀.heap.FunFrames X.base X.outer
 frf:∀b∈X.fs,X.H₀ b=none
structure Ab(X:Cx)(A5:List 'p')(Y:List (Option V))(H:Hp)(s:Shared):Prop where
 ok:X.Ok
 os:s.os=X.s₀.os
 bare:AllBare s.gens
 base:Un X.fs X.ex X.H₀ H X.s₀.heap s.heap
 loc:∃m,s.heap.Ns X.env.locals m/\∀(i:Nat) (x:Str) (v:V),X.N[i]?=some x->Y[i]?=some (some v)->Vis X.env.scope x->∃u,Am v u/\J6 X.env s.heap m x u
 cell:∀x c,X.env.cells.lookup x=some c->∃v,s.heap.IsCell c v
 free:H X.env.locals=none
 freeC:∀x c,X.env.cells.lookup x=some c->H c=none
 pin:∀p∈X.pn++A5,s.heap.get? p.1=some p.2/\H p.1=none/\p.1≠X.env.locals/\p.1∉X.fs/\∀v,p.2.data≠.cell v
 hok:Bo X.prog X.w H s.heap
 len:Y.length=X.N.length
section
variable{X:Cx}{A5:List 'p'}{Y:List (Option V)}{H H':Hp}{s:Shared}{h':Heap}
def Cx.Ok.nofr(a:X.Ok)(e:X.base.get? b=some o):b∉X.fs:=λc=>by
 have:=(a.funs.mem c).1;rw[e] at this;cases this
def Ab.bs(I:Ab X A5 Y H s):∀b o,X.base.get? b=some o->s.heap.get? b=some o/\H b=none:=λb o e=>
 {I.base.keep b o (I.ok.bs b o e).1 (I.ok.bs b o e).2 (I.ok.nofr e) (I.ok.noex b o e),I.base.free b o (I.ok.bs b o e).1 (I.ok.bs b o e).2 (I.ok.noex b o e)}
def Ab.bk(I:Ab X A5 Y H s):∀b o,X.base.get? b=some o->s.heap.get? b=some o:=λb o e=>(I.bs b o e).1
def Ab.mod(I:Ab X A5 Y H s):Mod X.K X.mg X.base:=I.ok.mod
def Ab.kIn(I:Ab X A5 Y H s):X.K.In s.heap:=I.ok.mod.kin.keeps I.bk
def Ab.lt(I:Ab X A5 Y H s):X.env.locals<s.heap.objs.size:=let ⟨_,a,_⟩:=I.loc;a.lt
def Ab.sz(I:Ab X A5 Y H s):X.s₀.heap.objs.size<=s.heap.objs.size:=Az I.ok.above (BB I.lt)
def Ab.nofs(I:Ab X A5 Y H s)(h:s.heap.objs.size<=a):a∉X.fs:=λb=>by
 obtain⟨_,o,a,_⟩:=I.ok.funs.mem b;exact absurd (A6 (Heap.lt_size a) (Az I.sz h)) (Dd _)
def Ab.cne(I:Ab X A5 Y H s):∀x c,X.env.cells.lookup x=some c->c≠X.env.locals:=λx c e z=>by
 obtain⟨v,o,f,d⟩:=I.cell x c e;obtain⟨m,⟨o',es,g,a,b,_⟩,_⟩:=I.loc;rw[z,a] at f;cases f;rw[b] at d;cases d
def Ab.funs(I:Ab X A5 Y H s):s.heap.FunFrames X.base X.outer:=by
 have c:∀(l:List Env),(∀b∈EG l,b∈X.fs)->X.s₀.heap.FunFrames X.base l->s.heap.FunFrames X.base l:=by
  intro l;induction l with
  | nil=>intro _ _;trivial
  | cons env r l=>
    intro g e;obtain⟨h,⟨a,o,f,n,m,j⟩,i⟩:=e;have d:a∈X.fs:=g a (by delta EG;rw[List.filterMap_cons,f];exact EY);obtain⟨p,e⟩:=I.base.slot a o m (I.ok.frf a d) d λz=>I.ok.exfs a z d
    exact{h,{a,_,f,n,e,j},l (λb a=>g b (by delta EG;rw[List.filterMap_cons,f];exact Ed _ a)) i}
 exact c X.outer (λ_ a=>a) I.ok.funs
def Ab.stack(I:Ab X A5 Y H s):s.heap.FunFrames X.base X.stack:=by
 rcases I.ok.stk with e | ⟨e,b⟩
 ·rw[e];exact I.funs
 ·rw[e]
  obtain⟨m,a,_⟩:=I.loc;refine .cons (by rw[I.ok.kind];decide) b a ?_ I.funs;exact Heap.get?_none_of_le (Az I.ok.bsz I.ok.above)
def Ab.stkSub(I:Ab X A5 Y H s):∀b∈EG X.stack,b∈X.env.locals::X.fs:=λb a=>by
 rcases I.ok.stk with e | ⟨e,b⟩
 ·rw[e] at a;exact Ed _ a
 ·rw[e] at a
  delta EG at a;rw[List.filterMap_cons,b] at a;exact a
def Ab.stkFree(I:Ab X A5 Y H s):∀b∈EG X.stack,H b=none:=λb a=>by
 rcases AE.mp (I.stkSub b a) with e | a
 ·rw[e];exact I.free
 ·obtain⟨_,o,c,_⟩:=I.ok.funs.mem a
  exact I.base.free b o c (I.ok.frf b a) λz=>I.ok.exfs b z a
def Ab.step{g':Array GenState}{t':Nat}{d':Drawn}{ch:List Addr}(I:Ab X A5 Y H s)(j:∀b∈ch,(b∈X.ex\/X.s₀.heap.objs.size<=b)/\b≠X.env.locals/\(∀x c,X.env.cells.lookup x=some c->c≠b)/\∀p∈X.pn++A5,p.1≠b)(h:∀b o,b≠X.env.locals->b∉X.fs->b∉ch->s.heap.get? b=some o->H b=none->h'.get? b=some o)(l:∀b o,b≠X.env.locals->b∈X.fs->b∉ch->s.heap.get? b=some o->H b=none->∃N,h'.get? b=some { o with slots:=N })(f:∀b o,b∉ch->s.heap.get? b=some o->H b=none->H' b=none)(r:∀b o,b∉ch->s.heap.get? b=some o->∃o',h'.get? b=some o')(C:∀b y,H b=some (.tup y)->H' b=some (.tup y))(E:∀b o u,H b=some (.frz o u)->H' b=some (.frz o u))(G:∀b M,H b=some (.tbl M)->∃a,H' b=some (.tbl (M++a)))(ns:∀m,s.heap.Ns X.env.locals m->h'.Ns X.env.locals m)(P:Bo X.prog X.w H' h')(Q:AllBare g') :
 Ab X A5 Y H' { s with heap:=h',gens:=g',drawn:=d',toks:=t' }:=by
 have J:∀b o,X.s₀.heap.get? b=some o->b≠X.env.locals:=λb o e=>Br (A6 (Heap.lt_size e) I.ok.above)
 have i:∀b o,X.s₀.heap.get? b=some o->b∉X.ex->b∉ch:=λb o e a A=>by
  rcases (j b A).1 with z | z
  ·exact a z
  ·exact absurd (A6 (Heap.lt_size e) z) (Dd _)
 have d:∀x c,X.env.cells.lookup x=some c->∀v,s.heap.IsCell c v->h'.IsCell c v:=λx c e v hI1=>by
  obtain⟨o,B,O⟩:=hI1;have g:c∉ch:=λz=>(j c z).2.2.1 x c e rfl
  by_cases n:c∈X.fs
  ·obtain⟨N,q⟩:=l c o (I.cne x c e) n g B (I.freeC x c e)
   exact{_,q,O}
  ·exact{o,h c o (I.cne x c e) n g B (I.freeC x c e),O}
 refine{I.ok,I.os,Q,{λb o e n A a=>?_,λb o e n A a=>?_,λb o e n a=>?_,λb o e a=>?_,λb y e=>C b y (I.base.tups b y e),λb o y e=>E b o y (I.base.frzs b o y e),λb M e=>?_},?_,λx c e=>?_,?_,λx c e=>?_,λp Q=>?_,P,I.len}
 ·exact h b o (J b o e) A (i b o e a) (I.base.keep b o e n A a) (I.base.free b o e n a)
 ·obtain⟨N,q⟩:=I.base.slot b o e n A a
  obtain⟨E,C⟩:=l b _ (J b o e) A (i b o e a) q (I.base.free b o e n a);exact⟨E,C⟩
 ·obtain⟨o',q⟩:=I.base.there b o e a
  exact f b o' (i b o e a) q (I.base.free b o e n a)
 ·obtain⟨o',q⟩:=I.base.there b o e a
  exact r b o' (i b o e a) q
 ·obtain⟨i,q⟩:=I.base.tbls b M e
  obtain⟨a,C⟩:=G b _ q;exact{i++a,by rw[C,Array.append_assoc]}
 ·obtain⟨m,a,A⟩:=I.loc
  refine{m,ns m a,λi x v q C b=>?_};obtain⟨u,r,l⟩:=A i x v q C b;refine{u,r,?_};rcases l with l | ⟨k,c,e,z⟩
  ·exact .inl l
  ·exact .inr {k,c,e,d x c e _ z}
 ·obtain⟨v,z⟩:=I.cell x c e
  exact{v,d x c e v z}
 ·obtain⟨m,⟨o,_,_,B,_⟩,_⟩:=I.loc
  exact f _ o (λz=>(j _ z).2.1 rfl) B I.free
 ·obtain⟨v,o,B,O⟩:=I.cell x c e
  exact f c o (λz=>(j c z).2.2.1 x c e rfl) B (I.freeC x c e)
 ·obtain⟨e,n,a,nf,d⟩:=I.pin p Q
  have g:p.1∉ch:=λz=>(j p.1 z).2.2.2 p Q rfl
  exact{h p.1 p.2 a nf g e n,f p.1 p.2 g e n,a,nf,d}
def Ab.un{t':Nat}(I:Ab X A5 Y H s)(u:Un X.fs [] H H' s.heap h')(c:Bo X.prog X.w H' h'):Ab X A5 Y H' { s with heap:=h',toks:=t' }:=by
 obtain⟨m,⟨o,es,a,f,r⟩,_⟩:=id I.loc;obtain⟨a,g⟩:=u.any f I.free 'd';exact I.step (g':=s.gens) (d':=s.drawn) (ch:=[]) (λ_ z=>nomatch z) (λb o _ a _ e n=>u.keep b o e n a 'd') (λb o _ a _ e n=>u.slot b o e n a 'd') (λb o _ e n=>u.free b o e n 'd') (λb o _ e=>u.there b o e 'd') u.tups u.frzs u.tbls (λm' e=>by
  obtain⟨o',d,b,a,r'⟩:=e;rw[f] at a;cases a;exact{_,d,b,g,r'}) c I.bare
def Ab.call{g':Array GenState}{t':Nat}{d':Drawn}{ch:List Addr}(I:Ab X A5 Y H s)(u:Un (EG X.stack) ch H H' s.heap h')(f:Bo X.prog X.w H' h')(i:AllBare g')(d:∀b∈ch,(b∈X.ex\/X.s₀.heap.objs.size<=b)/\b≠X.env.locals/\(∀x c,X.env.cells.lookup x=some c->c≠b)/\∀p∈X.pn++A5,p.1≠b) :
 Ab X A5 Y H' { s with heap:=h',gens:=g',drawn:=d',toks:=t' }:=by
 obtain⟨m,⟨o,es,a,h,r⟩,_⟩:=id I.loc;obtain⟨a,g⟩:=u.any h I.free λz=>(d _ z).2.1 rfl
 exact I.step (ch:=ch) d (λb o g c a e n=>u.keep b o e n (λz=>(AE.mp (I.stkSub b z)).elim g c) a) (λb o _ _ a e n=>u.any e n a) (λb o a e n=>u.free b o e n a) (λb o a e=>u.there b o e a) u.tups u.frzs u.tbls (λm' d=>by
  obtain⟨o',c,b,a,r'⟩:=d;rw[h] at a;cases a;exact{_,c,b,g,r'}) f i
def Ab.turned{t':Nat}{a:Addr}(I:Ab X A5 Y H s)(k:∀b o,b≠a->s.heap.get? b=some o->h'.get? b=some o)(d:H a=none)(g:a≠X.env.locals)(h:a∈X.ex\/X.s₀.heap.objs.size<=a)(l:∀x c,X.env.cells.lookup x=some c->c≠a)(i:∀p∈X.pn++A5,p.1≠a):Ab X A5 Y H { s with heap:=h',toks:=t' }:=by
 have f:∀b u,H b=some u->b≠a:=λb u e z=>by rw[z,d] at e;cases e
 refine I.step (g':=s.gens) (d':=s.drawn) (ch:=[a]) (λb p=>?_) (λb o _ _ d e _=>k b o (λz=>d (by simp[z])) e) (λb o _ _ d e _=>{o.slots,k b o (λz=>d (by simp[z])) e}) (λ_ _ _ _ n=>n)
  (λb o d e=>{o,k b o (λz=>d (by simp[z])) e}) (λ_ _ e=>e) (λ_ _ _ e=>e) (λb j e=>{#[],by rw[e];simp}) (λm j=>?_) (λb u e=>?_) I.bare
 ·have e:b=a:=by simpa using p
  subst e;exact⟨h,g,l,i⟩
 ·obtain⟨o,es,h,a,r⟩:=j
  exact{o,es,h,k _ o (Ne.symm g) a,r}
 ·refine(I.hok b u e).stay (λc v d q=>k c v ?_ q) (λ_ q=>q) λ_ _ q=>q
  rcases d with z | z
  ·rw[z];exact f b u e
  ·exact f c _ z
def Ab.tok(I:Ab X A5 Y H s)(t:Nat):Ab X A5 Y H { s with toks:=t }:=I.un (h':=s.heap) (t':=t) Un.refl I.hok
def Ab.kept{t':Nat}(I:Ab X A5 Y H s)(k:∀b u,s.heap.get? b=some u->h'.get? b=some u):Ab X A5 Y H { s with heap:=h',toks:=t' }:=I.un (Un.kept k) (I.hok.kept k)
def Ab.laid{a:Addr}{o:HO}{t':Nat}(I:Ab X A5 Y H s)(k:∀b u,s.heap.get? b=some u->h'.get? b=some u)(c:s.heap.objs.size<=a)(b:Bv X.prog X.w (Ag H a o) h' a o) :
 Ab X A5 Y (Ag H a o) { s with heap:=h',toks:=t' }:=I.un (Un.laid k c (I.hok.fresh c)) (I.hok.laid k c b)
def Ab.write{t':Nat}(I:Ab X A5 Y H s)(c:Mut (H x))(d:e=x\/H e=some (.own x))(k:∀b u,b≠e->s.heap.get? b=some u->h'.get? b=some u)(a:∃u,h'.get? e=some u)(b:Bv X.prog X.w (Ag H x o) h' x o):Ab X A5 Y (Ag H x o) { s with heap:=h',toks:=t' }:=I.un (Un.write c d k a) (I.hok.write c d k a b)
def Ab.pins_of(I:Ab X A5 Y H s)(h:∀p∈pins',s.heap.get? p.1=some p.2/\H p.1=none/\p.1≠X.env.locals/\p.1∉X.fs/\∀v,p.2.data≠.cell v):Ab X pins' Y H s:=
 {I.ok,I.os,I.bare,I.base,I.loc,I.cell,I.free,I.freeC,λp a=>(BN.mp a).elim (λz=>I.pin p (Ff _ z)) (h p),I.hok,I.len}
def iO{N:List Str}(e:N.Nodup){i j:Nat}{x:Str}(a:N[i]?=some x)(b:N[j]?=some x):i=j:=by
 obtain⟨d,c⟩:=AQ.mp a;obtain⟨f,d⟩:=AQ.mp b;exact(List.getElem_inj e).mp (c.trans d.symm)
def iP{M:Model}{A:Around}{E:Value->Shared->Prop}{i:Nat}{x:Str}{v:V}{u:Value}{Q:Unit->Shared->Prop}(I:Ab X A5 Y H s)(hN:X.N.Nodup)(R:X.N[i]?=some x)(B:Loc X.env.scope x)(r:Am v u)(h:∀s',Ab X A5 (Y.set i (some v)) H s'->(∃a,Heap.SameBut a s.heap s'.heap/\(a=X.env.locals\/X.env.cells.lookup x=some a))->Q () s')(N:autoParam (X.fn x=true\/X.env.scope.names.lookup x=some .local) M3._auto_1):wpAny M A (storeName X.env x u) Q E s:=by
 obtain⟨m,W,hl⟩:=id I.loc;have d:(X.env.scope.kind == .class||(X.env.scope.kind == .module&&X.env.locals != X.env.globals))=false:=by rw[I.ok.kind];rfl
 have C:i<Y.length:=by rw[I.len];exact(AQ.mp R).1
 have E:=I.cne;have g:∀{a:Addr} {h':Heap},(∃o,s.heap.get? a=some o/\H a=none)->Heap.SameBut a s.heap h'->Bo X.prog X.w H h':=λ{a h'} c f b j e=>by
  obtain⟨_,_,a⟩:=c;refine(I.hok b j e).stay (λc w' l q=>(f.2 c ?_).trans q) (λ_ q=>q) λ_ _ q=>q
  rintro rfl;rcases l with rfl | l
  ·rw[a] at e;cases e
  ·rw[a] at l;cases l
 rcases B with A | A
 ·refine wpAny_storeName_local A W (λh' p f=>?_) d
  obtain⟨G,_,_,z,_⟩:=id W;refine h _ {I.ok,I.os,I.bare,{λb o e n M B=>?_,λb o e n M B=>?_,I.base.free,λb o e B=>?_,I.base.tups,I.base.frzs,I.base.tbls},{_,p,λj y v' a v Z=>?_},λy c e=>?_,I.free,I.freeC,λp T=>?_,g ⟨G,z,I.free⟩ f,by simpa using I.len} {_,f,.inl rfl}
  ·exact(f.2 b (Br (A6 (Heap.lt_size e) I.ok.above))).trans (I.base.keep b o e n M B)
  ·obtain⟨U,a⟩:=I.base.slot b o e n M B
   exact{U,(f.2 b (Br (A6 (Heap.lt_size e) I.ok.above))).trans a}
  ·obtain⟨o',a⟩:=I.base.there b o e B
   exact{o',(f.2 b (Br (A6 (Heap.lt_size e) I.ok.above))).trans a}
  ·by_cases G:j=i
   ·subst G
    rw[R] at a;cases a;rw[He C] at v;cases v;exact{u,r,.inl {A,'d'}}
   ·rw[DD (Ne.symm G)] at v
    obtain⟨u',r',q⟩:=hl j y v' a v Z;refine{u',r',?_};rcases q with⟨k,e⟩ | ⟨k,c,e,z⟩
    ·refine .inl {k,?_}
     have:y≠x:=λe=>G (iO hN a (e▸R))
     simp[this,e]
    ·exact .inr {k,c,e,z.sameBut f (E y c e)}
  ·obtain⟨w',z⟩:=I.cell y c e
   exact{w',z.sameBut f (E y c e)}
  ·obtain⟨e,n,Q,nf,d⟩:=I.pin p T
   exact{(f.2 p.1 Q).trans e,n,Q,nf,d}
 ·have J:X.fn x=true:=by
   rcases N with z | z
   ·exact z
   ·rw[z] at A;cases A
  obtain⟨c,l⟩:=I.ok.has x (.inl A);obtain⟨w',z⟩:=I.cell x c l;refine wpAny_storeName_cell I.ok.kind A l z (λh' N f=>?_);obtain⟨oc,P,O⟩:=id z;refine h { s with heap:=h' } {I.ok,I.os,I.bare,{λb o e n M B=>?_,λb o e n M B=>?_,I.base.free,λb o e B=>?_,I.base.tups,I.base.frzs,I.base.tbls},{m,W.sameBut f (Ne.symm (E x c l)),λj y v' a v Z=>?_},λy h e=>?_,I.free,I.freeC,λp T=>?_,g {oc,P,I.freeC x c l} f,by simpa using I.len} {c,f,.inr l}
  ·exact(f.2 b (Br (A6 (Heap.lt_size e) (I.ok.cab x c J l)))).trans (I.base.keep b o e n M B)
  ·obtain⟨U,a⟩:=I.base.slot b o e n M B
   exact{U,(f.2 b (Br (A6 (Heap.lt_size e) (I.ok.cab x c J l)))).trans a}
  ·obtain⟨o',a⟩:=I.base.there b o e B
   exact{o',(f.2 b (Br (A6 (Heap.lt_size e) (I.ok.cab x c J l)))).trans a}
  ·by_cases G:j=i
   ·subst G
    rw[R] at a;cases a;rw[He C] at v;cases v;exact{u,r,.inr {.inl A,c,l,N}}
   ·rw[DD (Ne.symm G)] at v
    obtain⟨u',r',q⟩:=hl j y v' a v Z;refine{u',r',?_};rcases q with q | ⟨k,h,e,z'⟩
    ·exact .inl q
    ·refine .inr {k,h,e,z'.sameBut f ?_}
     rintro rfl;exact G (iO hN a (I.ok.inj _ _ _ e l▸R))
  ·by_cases a:h=c
   ·subst a;exact{_,N}
   ·obtain⟨b,c⟩:=I.cell y h e
    exact{b,c.sameBut f a}
  ·obtain⟨e,n,Q,nf,d⟩:=I.pin p T
   refine{(f.2 p.1 ?_).trans e,n,Q,nf,d};intro q;rw[q,P] at e;have a:oc=p.2:=Option.some.inj e;exact d w' (by rw[<-a];exact O)
def cj{M:Model}{A:Around}{E:Value->Shared->Prop}{i:Nat}{x:Str}{v:V}{u:Value}{Q:Unit->Shared->Prop}(I:Ab X A5 Y H s)(e:X.N.Nodup)(b:X.N[i]?=some x)(c:Loc X.env.scope x)(r:Am v u)(h:∀s',Ab X A5 (Y.set i (some v)) H s'->Q () s')(d:autoParam (X.fn x=true\/X.env.scope.names.lookup x=some .local) M3._auto_1):wpAny M A (storeName X.env x u) Q E s:=
 iP I e b c r (λs' a _=>h s' a) d
def Ab.call'(I:Ab X A5 Y H s)(f:s'.os=s.os)(u:Un (EG X.stack) ch H H' s.heap s'.heap)(a:Bo X.prog X.w H' s'.heap)(g:AllBare s'.gens)(d:∀b∈ch,(b∈X.ex\/X.s₀.heap.objs.size<=b)/\b≠X.env.locals/\(∀x c,X.env.cells.lookup x=some c->c≠b)/\∀p∈X.pn++A5,p.1≠b):Ab X A5 Y H' s':=by
 obtain⟨h',g',d',t',o'⟩:=s';have e:o'=s.os:=f;subst e;exact I.call (g':=g') (t':=t') (d':=d') u a g d
end
abbrev XK:=Value->Option Addr->Hp->Prop
abbrev St:=List (Option V)
abbrev VK:=V->Hp->Prop
abbrev TE:=St->Hp->VK->Prop
abbrev TT:=St->Hp->(Bool->Hp->Prop)->Prop
abbrev TA:=St->Hp->(List V->Hp->Prop)->Prop
structure DQ where
 nx:St->Hp->Prop
 rt:VK
 bk:St->Hp->Prop:=λ_ _=>False
 ct:St->Hp->Prop:=λ_ _=>False
abbrev TS:=DQ->St->Hp->Prop
instance EP(X:Cx)(A5:List 'p')(Y:St)(Q:VK)(u:Value)(s':Shared):Prop:=∃v H',Ab X A5 Y H' s'/\Am v u/\Q v H'
instance TP(X:Cx)(A5:List 'p')(Y:St)(Q:Bool->Hp->Prop)(b:Bool)(s':Shared):Prop:=∃H',Ab X A5 Y H' s'/\Q b H'
instance AP(X:Cx)(A5:List 'p')(Y:St)(Q:List V->Hp->Prop)(us:List Value)(s':Shared):Prop:=∃vs H',Ab X A5 Y H' s'/\Aq vs us/\Q vs H'
open H in
instance SP(X:Cx)(A5:List 'p')(D:DQ)(f:Flow)(s':Shared):Prop:=
 match f with
 | .next=>∃Y' H',Ab X A5 Y' H' s'/\D.nx Y' H'
 | .brk=>∃Y' H',Ab X A5 Y' H' s'/\D.bk Y' H'
 | .cont=>∃Y' H',Ab X A5 Y' H' s'/\D.ct Y' H'
 | .ret u=>∃v Y' H',Ab X A5 Y' H' s'/\Am v u/\D.rt v H'
instance PE(X:Cx)(e:Expr)(t:TE):Prop:=
 ∀(A5:List 'p') (s:Shared) (Y:St) (H:Hp) (Q:VK),Ab X A5 Y H s->t Y H Q->wpAny 'e' X.A (eval e X.env) (EP X A5 Y Q) X.xe s
instance PT(X:Cx)(e:Expr)(t:TT):Prop:=
 ∀(A5:List 'p') (s:Shared) (Y:St) (H:Hp) (Q:Bool->Hp->Prop),Ab X A5 Y H s->t Y H Q->wpAny 'e' X.A (isTrue e X.env (eval e X.env)) (TP X A5 Y Q) X.xe s
instance PW(X:Cx)(e:Expr)(t:TT):Prop:=
 ∀(whole:Sem Value) (A5:List 'p') (s:Shared) (Y:St) (H:Hp) (Q:Bool->Hp->Prop),Ab X A5 Y H s->t Y H Q->wpAny 'e' X.A (isTrue e X.env whole) (TP X A5 Y Q) X.xe s
def PW.pt{X:Cx}{e:Expr}{t:TT}(h:PW X e t):PT X e t:=h _
instance PA(X:Cx)(es:List Expr)(t:TA):Prop:=
 ∀(pos:Pos) (A5:List 'p') (s:Shared) (Y:St) (H:Hp) (Q:List V->Hp->Prop),Ab X A5 Y H s->t Y H Q->wpAny 'e' X.A (spliced (backTo pos (starEach es X.env))) (AP X A5 Y Q) X.xe s
instance PS(X:Cx)(st:Stmt)(t:TS):Prop:=
 ∀(A5:List 'p') (s:Shared) (Y:St) (H:Hp) (D:DQ),Ab X A5 Y H s->t D Y H->wpAny 'e' X.A (exec st X.env) (SP X A5 D) X.xe s
def CP(X:Cx)(st:List Stmt)(t:TS):Prop:=
 ∀(A5:List 'p') (s:Shared) (Y:St) (H:Hp) (D:DQ),Ab X A5 Y H s->t D Y H->wpAny 'e' X.A (execs st X.env) (SP X A5 D) X.xe s
def ai{α:Type}{t:Sem α}{Q b:α->Shared->Prop}{M:Model}{A:Around}{E:Value->Shared->Prop}{s:Shared}(h:wpAny M A t Q E s)(c:∀a s,Q a s->b a s):wpAny M A t b E s:=Db h c λ_ _ x=>x
section
variable{X:Cx}
def B1(i:Nat):TE:=λY H Q=>∃v,Y[i]?=some (some v)/\Q v H
instance tC(v:V):TE:=λ_ H Q=>Q v H
def nP{i:Nat}{x:Str}(g:X.N[i]?=some x)(a:Vis X.env.scope x)(d:autoParam 'u' uD)(f:autoParam ((x == ("__classdict__" : Str))=false) uD):PE X (.Name x pos) (B1 i):=by
 intro c s Y H Q I h;obtain⟨v,e,h⟩:=h;obtain⟨m,j,b⟩:=I.loc;obtain⟨u,r,l⟩:=b i x v g e a;have fin:EP X c Y Q u s:=⟨v,H,I,r,h⟩;rcases l with⟨b,g⟩ | ⟨b,c,e,a⟩
 ·exact wpAny_Name (wpAny_loadName_local I.ok.kind b j g fin) d
 ·rcases b with b | b
  ·exact wpAny_Name (wpAny_loadName_cell I.ok.kind b e a fin) d
  ·exact wpAny_Name (wpAny_loadName_free I.ok.kind b e a fin f) d
def aT{i j pos}:PE X (.Constant (.int i) j pos) (tC (.int i)):=λ_ _ _ H _ I h=>wpAny_Constant_int {.int i,H,I.tok _,{_,rfl},h}
def nQ{b j pos}:PE X (.Constant (.bool b) j pos) (tC (.bl b)):=λ_ _ _ H _ I h=>Constant_bool {.bl b,H,I,rfl,h}
def nR{j pos}:PE X (.Constant .none j pos) (tC .non):=λ_ _ _ H _ I h=>Constant_none {.non,H,I,rfl,h}
def bX{x j pos}:PE X (.Constant (.str x) j pos) (tC (.str x)):=λ_ _ _ H _ I h=>Calls.Constant_str {.str x,H,I.tok _,{_,rfl},h}
instance Gl(X:Cx)(x:Str):Prop:=X.env.kindOf x=some .globalImplicit
def iQ{E:Value->Shared->Prop}{c:List 'p'}{s:Shared}{Y:St}{H:Hp}{x:Str}{u:Value}{pos:Pos}{Q:Value->Shared->Prop}(I:Ab X c Y H s)(b:Gl X x)(d:X.mg x=some u)(h:Q u s)(a:autoParam 'u' uD):wpAny 'e' X.A (eval (.Name x pos) X.env) Q E s:=
 Calls.Name_function_global I.ok.kind b (Calls.loadGlobal_global (by rw[I.ok.glob];exact I.mod.glob.keeps I.bk) d h) a
def cA{E:Value->Shared->Prop}{b:List 'p'}{s:Shared}{Y:St}{H:Hp}{x:Str}{u:Value}{pos:Pos}{Q:Value->Shared->Prop}(I:Ab X b Y H s)(c:Gl X x)(f:X.mg x=none)(e:bootBuiltins x=some u)(h:Q u s)(i:autoParam (x≠"__name__") uD)(d:autoParam 'u' uD):wpAny 'e' X.A (eval (.Name x pos) X.env) Q E s:=by
 obtain⟨j,a,g⟩:=I.mod.blt;exact Calls.Name_function_global I.ok.kind c (Calls.loadGlobal_builtin (by rw[I.ok.glob];exact I.mod.glob.keeps I.bk) f (by rw[I.ok.blt];exact a.keeps I.bk) ((g x i).trans e) h) d
def iR{x:Str}(c:Gl X x)(b:X.mg x=some u)(r:Am v u)(a:autoParam 'u' uD):PE X (.Name x pos) (tC v):=
 λ_ _ _ H _ I h=>iQ I c b ⟨v,H,I,r,h⟩ a
def nS{x:Str}(d:Gl X x)(c:X.mg x=none)(b:bootBuiltins x=some u)(r:Am v u)(e:autoParam (x≠"__name__") uD)(a:autoParam 'u' uD):PE X (.Name x pos) (tC v):=
 λ_ _ _ H _ I h=>cA I d c b ⟨v,H,I,r,h⟩ e a
variable{a b:Expr}{ta tb:TE}{pos:Pos}
instance PC(X:Cx)(op:CmpOp)(a b:Expr)(t:TE):Prop:=
 ∀(A5:List 'p') (s:Shared) (Y:St) (H:Hp) (Q:VK),Ab X A5 Y H s->t Y H Q->
  wpAny 'e' X.A (eval a X.env) (λv s₁=>wpAny 'e' X.A (eval b X.env) (λu s₂=>wpAny 'e' X.A (compareOp op v u) (EP X A5 Y Q) X.xe s₂) X.xe s₁) X.xe s
instance tB(t:TE):TT:=λY H Q=>t Y H λx H1=>∃c,x=.bl c/\Q c H1
def nT(h:PC X c a b t)(d:autoParam (behindInMarks c b=false) Na._auto_1):PE X (.Compare a [c] [b] pos) t:=λe s Y H Q I c=>wpAny_Compare1 (h e s Y H Q I c) d
def iS{c:CmpOp}{t:TE}(h:PC X c a b t)(d:autoParam (behindInMarks c b=false) Na._auto_1):PT X (.Compare a [c] [b] pos) (tB t):=by
 intro c s Y H Q I e;refine wpAny_isTrue_Compare1 (ai (h c s Y H _ I e) λv c d=>ai d λu g e=>ai e λc f hI60=>?_) d;obtain⟨x,H1,I1,e,c⟩:=hI60;obtain⟨d,rfl,q⟩:=c;cases e;exact Ec ⟨H1,I1,q⟩
def nU{e:Expr}{t:TE}(h:PE X e t)(f:autoParam (∀c,isTrue e X.env c=(do let v <-c;standAt e.pos;holding [v] (truthy v))) Nb._auto_1):PT X e (tB t):=by
 intro c s Y H Q I d;refine isTrue_plain (ai (h c s Y H _ I d) λv c hI61=>?_) (f _);obtain⟨x,H1,I1,e,c⟩:=hI61;obtain⟨d,rfl,q⟩:=c;cases e;exact Ec ⟨H1,I1,q⟩
variable{tA tB':TT}{rest:List Expr}
def J7(t u:TT):TT:=λY H Q=>t Y H λc H1=>if c=true then u Y H1 Q else Q false H1
instance tOr(t u:TT):TT:=λY H Q=>t Y H λc H1=>if c=true then Q true H1 else u Y H1 Q
def J8(t:TT):TT:=λY H Q=>t Y H λc H1=>Q (!c) H1
def pw_and1(c:PT X a tA):PW X (.BoolOp .And [a] pos) tA:=by
 intro e d s Y H Q I h;refine isTrue_and (ai (c d s Y H Q I h) λc d e=>?_);cases c with
 | true=>exact isTrue_and_nil e
 | false=>exact e
def pw_or1(c:PT X a tA):PW X (.BoolOp .Or [a] pos) tA:=by
 intro e d s Y H Q I h;refine isTrue_or (ai (c d s Y H Q I h) λc d e=>?_);cases c with
 | false=>exact isTrue_or_nil e
 | true=>exact e
def pw_and(c:PT X a tA)(f:PW X (.BoolOp .And (b::rest) pos) tB'):PW X (.BoolOp .And (a::b::rest) pos) (J7 tA tB'):=by
 intro i e s Y H Q I h;refine isTrue_and (ai (c e s Y H _ I h) λc g hI62=>?_);obtain⟨H1,I1,d⟩:=hI62;cases c with
 | true=>exact f i e g Y H1 Q I1 d
 | false=>exact⟨H1,I1,d⟩
def pw_or(c:PT X a tA)(f:PW X (.BoolOp .Or (b::rest) pos) tB'):PW X (.BoolOp .Or (a::b::rest) pos) (tOr tA tB'):=by
 intro i e s Y H Q I h;refine isTrue_or (ai (c e s Y H _ I h) λc g hI63=>?_);obtain⟨H1,I1,d⟩:=hI63;cases c with
 | true=>exact⟨H1,I1,d⟩
 | false=>exact f i e g Y H1 Q I1 d
def nV(d:PT X a tA):PT X (.UnaryOp .Not a pos) (J8 tA):=by
 intro e s Y H Q I h;exact isTrue_not (d e s Y H (λc H1=>Q (!c) H1) I h)
def J9(ta tb:TE):TE:=λY H Q=>ta Y H λx H1=>∃c,x=.bl c/\if c=true then tb Y H1 Q else Q (.bl false) H1
def Ka(ta tb:TE):TE:=λY H Q=>ta Y H λx H1=>∃c,x=.bl c/\if c=true then Q (.bl true) H1 else tb Y H1 Q
def Kb(ta:TE):TE:=λY H Q=>ta Y H λx H1=>∃c,x=.bl c/\Q (.bl (!c)) H1
def nW{op}(h:PE X a t):PE X (.BoolOp op [a] pos) t:=λd s Y H Q I c=>BoolOp_one (h d s Y H Q I c)
def nX(c:PE X a ta)(g:PE X (.BoolOp .And (b::rest) pos) tb):PE X (.BoolOp .And (a::b::rest) pos) (J9 ta tb):=by
 intro e s Y H Q I h;refine BoolOp_and (ai (c e s Y H _ I h) λv f hI64=>?_);obtain⟨x,H1,I1,h,d⟩:=hI64;obtain⟨c,rfl,d⟩:=d;cases h;refine Ec ?_;cases c with
 | true=>exact g e f Y H1 Q I1 d
 | false=>exact{.bl false,H1,I1,rfl,d}
def nY(c:PE X a ta)(g:PE X (.BoolOp .Or (b::rest) pos) tb):PE X (.BoolOp .Or (a::b::rest) pos) (Ka ta tb):=by
 intro e s Y H Q I h;refine BoolOp_or (ai (c e s Y H _ I h) λv f hI65=>?_);obtain⟨x,H1,I1,h,d⟩:=hI65;obtain⟨c,rfl,d⟩:=d;cases h;refine Ec ?_;cases c with
 | false=>exact g e f Y H1 Q I1 d
 | true=>exact{.bl true,H1,I1,rfl,d}
def n3(c:PE X a ta):PE X (.UnaryOp .Not a pos) (Kb ta):=by
 intro d s Y H Q I h;refine UnaryOp_ (ai (c d s Y H _ I h) λv c hI66=>?_);obtain⟨x,H1,I1,e,d⟩:=hI66;obtain⟨c,rfl,d⟩:=d;cases e;exact not_of (Ec {.bl (!c),H1,I1,rfl,d})
end
def AY(K:FG)(H:Hp)(a:Addr)(xs:List V):Prop:=
 Rd H a (.lst xs)\/
  ∃(o:Obj) (its:Array Value) (n:Nat),K.lookup a=some o/\o.cls=.type "list"/\o.dict=none/\o.data=.seq its n/\its.size<=sizeLine/\Aq xs its.toList
def AS(K:FG)(H:Hp)(a:Addr)(xs:List V):Prop:=
 Rd H a (.tup xs)\/
  ∃(o:Obj) (its:Array Value) (n:Nat),K.lookup a=some o/\o.cls=.type "tuple"/\o.data=.seq its n/\its.size<=sizeLine/\Aq xs its.toList
def Kc:Value->Option V
 | .none=>some .non
 | .bool b=>some (.bl b)
 | .int i _=>some (.int i)
 | .str x _=>some (.str x)
 | .bytes b _=>some (.byt b)
 | .float b _=>some (.flt b)
 | .ref a=>some (.ref a)
 | .type n=>some (.ty n)
 | _=>none
theorem Am.abs(r:Am x u):Kc u=some x:=by
 cases x with
 | non=>cases r;rfl
 | bl _=>cases r;rfl
 | int _=>obtain⟨t,rfl⟩:=r;rfl
 | str _=>obtain⟨t,rfl⟩:=r;rfl
 | byt _=>obtain⟨t,rfl⟩:=r;rfl
 | flt _=>obtain⟨t,rfl⟩:=r;rfl
 | ref _=>cases r;rfl
 | ty _=>cases r;rfl
def Am.inj(r:Am x u)(q:Am y u):x=y:=Option.some.inj (r.abs.symm.trans q.abs)
theorem Aq.inj:∀{b a:List V} {us:List Value},Aq b us->Aq a us->b=a
 | _,_,_,.nil,.nil=>rfl
 | _,_,_,.cons r t,.cons r' c=>by rw[r.inj r',Aq.inj t c]
def AY.of{K:FG}(h:H a=some (.lst b)):AY K H a b:=.inl (.inl h)
def AS.of{K:FG}(h:H a=some (.tup b)):AS K H a b:=.inl (.inl h)
def Ab.list(I:Ab X j Y H s)(h:AY X.K H a c):∃b:List Value,Aq c b/\PlainL s.heap a b.toArray/\c.length<=sizeLine:=by
 rcases h with h | ⟨o,b,n,f,i,d,g,e,r⟩
 ·obtain⟨z,b,n,r,e⟩:=h.ok I.hok
  exact{b,r,{_,n,e,rfl,rfl,rfl},z}
 ·refine{b.toList,r,{o,n,I.kIn a o f,i,d,by simpa using g},?_}
  have e:=r.length;simp only[Ee] at e;omega
def Ab.tuple(I:Ab X i Y H s)(h:AS X.K H a c):∃b:List Value,Aq c b/\IsTup s.heap a b.toArray/\c.length<=sizeLine:=by
 rcases h with h | ⟨o,b,n,d,e,f,g,r⟩
 ·obtain⟨z,b,r,p,_⟩:=h.ok I.hok
  exact⟨b,r,p,z⟩
 ·refine{b.toList,r,{o,I.kIn a o d,e,n,by simpa using f},?_}
  have e:=r.length;simp only[Ee] at e;omega
def Ab.list_inj(I:Ab X i Y H s)(h:AY X.K H a f)(g:AY X.K H a c):f=c:=by
 obtain⟨b,r,⟨o,n,e,_,_,d⟩,_⟩:=I.list h;obtain⟨a,r',⟨o',j,e',_,_,d'⟩,_⟩:=I.list g;rw[e] at e';cases e';rw[d] at d';injection d' with d1 _
 have:b=a:=by simpa using congrArg Array.toList d1
 subst this;exact r.inj r'
def Ab.tuple_inj(I:Ab X i Y H s)(h:AS X.K H a f)(g:AS X.K H a c):f=c:=by
 obtain⟨b,r,⟨o,e,_,n,d⟩,_⟩:=I.tuple h;obtain⟨a,r',⟨o',e',_,h,d'⟩,_⟩:=I.tuple g;rw[e] at e';cases e';rw[d] at d';injection d' with d1 _
 have:b=a:=by simpa using congrArg Array.toList d1
 subst this;exact r.inj r'
abbrev Cx.wish(X:Cx)(E:Value->Shared->Prop):Cx:={ X with xe:=E }
abbrev Cx.nox(X:Cx):Cx:=X.wish λ_ _=>False
def Cx.Ok.wish{X:Cx}(a:X.Ok)(E:Value->Shared->Prop):(X.wish E).Ok:=
 ⟨a.mod,a.kind,a.glob,a.blt,a.above,a.inj,a.has,a.cab,a.hd,a.frames,a.stk,a.exf,a.bs,a.bsz,a.noex,a.exfs,a.funs,a.frf⟩
def Cx.Ok.unwish{X:Cx}{E:Value->Shared->Prop}(a:(X.wish E).Ok):X.Ok:=
 ⟨a.mod,a.kind,a.glob,a.blt,a.above,a.inj,a.has,a.cab,a.hd,a.frames,a.stk,a.exf,a.bs,a.bsz,a.noex,a.exfs,a.funs,a.frf⟩
def Ab.wish(I:Ab X a Y H s)(E:Value->Shared->Prop):Ab (X.wish E) a Y H s:={I.ok.wish E,I.os,I.bare,I.base,I.loc,I.cell,I.free,I.freeC,I.pin,I.hok,I.len}
def Ab.unwish(I:Ab (X.wish E) a Y H s):Ab X a Y H s:=⟨I.ok.unwish,I.os,I.bare,I.base,I.loc,I.cell,I.free,I.freeC,I.pin,I.hok,I.len⟩
open H in
theorem SP.unwish(h:SP (X.wish E) c D f s'):SP X c D f s':=by
 cases f with
 | next=>obtain⟨b,a,I,q⟩:=h;exact⟨b,a,I.unwish,q⟩
 | brk=>obtain⟨b,a,I,q⟩:=h;exact⟨b,a,I.unwish,q⟩
 | cont=>obtain⟨b,a,I,q⟩:=h;exact⟨b,a,I.unwish,q⟩
 | ret u=>obtain⟨v,b,a,I,r,q⟩:=h;exact⟨v,b,a,I.unwish,r,q⟩
def CP.nox{a:List Stmt}{t:TS}(h:CP X.nox a t):CP X a t:=λc s Y H D I b=>
 Db (h c s Y H D (I.wish _) b) (λ_ _ q=>q.unwish) λ_ _ z=>False.elim z
section
variable{X:Cx}{st:Stmt}{rest:List Stmt}{t u:TS}{e:Expr}{te:TE}{pos:Pos}
def Kd:TS:=λD Y H=>D.nx Y H
def Ke(t u:TS):TS:=λD Y H=>t { D with nx:=u D } Y H
def fS:CP X [] Kd:=λ_ _ Y H _ I h=>wpAny_execs_nil ⟨Y,H,I,h⟩
open H in
def bA(b:PS X st t)(c:CP X rest u):CP X (st::rest) (Ke t u):=by
 intro a s Y H D I h;refine wpAny_execs_cons (ai (b a s Y H { D with nx:=u D } I h) λf g q=>?_);cases f with
 | next=>
   obtain⟨h,b,d,q⟩:=q;exact c a g h b D d q
 | ret v=>exact q
 | brk=>exact q
 | cont=>exact q
open H in
def dr(a:PS X st t):CP X [st] t:=by
 intro b s Y H D I h;refine wpAny_execs_cons (ai (a b s Y H D I h) λf a q=>?_);cases f with
 | next=>exact wpAny_execs_nil q
 | ret v=>exact q
 | brk=>exact q
 | cont=>exact q
def Ab.quiet{a:List 'p'}{Y:St}{H:Hp}{s:Shared}(I:Ab X a Y H s):interactive X.env=false:=by simp[interactive,I.ok.kind]
def Kf(te:TE):TS:=λD Y H=>te Y H λ_ H1=>D.nx Y H1
def fT(c:PE X e te)(b:autoParam (swapsWith e none pos.line X.env=pure false) uR):PS X (.Expr e pos) (Kf te):=by
 intro a s Y H D I h;exact wpAny_Expr_any (ai (c a s Y H _ I h) λv c ⟨x,H1,I1,d,a⟩=>⟨Y,H1,I1,a⟩) I.quiet b
def Kg(te:TE):TS:=λD Y H=>te Y H D.rt
def cT(b:PE X e te):PS X (.Return (some e) pos) (Kg te):=by
 intro a s Y H D I h;exact wpAny_Return_some (ai (b a s Y H _ I h) λv c ⟨x,H1,I1,b,a⟩=>⟨x,Y,H1,I1,b,a⟩)
def Kh(c:TT)(t u:TS):TS:=λD Y H=>c Y H λb H1=>if b=true then t D Y H1 else u D Y H1
def fU{c:Expr}{a b:List Stmt}{d:TT}(i:PT X c d)(g:CP X a t)(f:CP X b u):PS X (.If c a b pos) (Kh d t u):=by
 intro a s Y H D I h;refine wpAny_If (ai (i a s Y H _ I h) λd c hI67=>?_);obtain⟨H1,I1,b⟩:=hI67;cases d with
 | true=>exact g a c Y H1 D I1 b
 | false=>exact f a c Y H1 D I1 b
end
abbrev TG:=V->St->Hp->(St->Hp->Prop)->Prop
abbrev TGs:=List V->St->Hp->(St->Hp->Prop)->Prop
instance PG(X:Cx)(target:Expr)(t:TG):Prop:=
 ∀(A5:List 'p') (s:Shared) (Y:St) (H:Hp) (v:V) (u:Value) (Q:St->Hp->Prop),Ab X A5 Y H s->Am v u->t v Y H Q->
  wpAny 'e' X.A (assign target X.env u) (λ_ s'=>∃Y' H',Ab X A5 Y' H' s'/\Q Y' H') X.xe s
instance PGs(X:Cx)(ts:List Expr)(t:TGs):Prop:=
 ∀(A5:List 'p') (s:Shared) (Y:St) (H:Hp) (vs:List V) (us:List Value) (Q:St->Hp->Prop),Ab X A5 Y H s->Aq vs us->t vs Y H Q->
  wpAny 'e' X.A (assignInOrder ((assignEach ts X.env).map (·.2)) us) (λ_ s'=>∃Y' H',Ab X A5 Y' H' s'/\Q Y' H') X.xe s
abbrev HS:=V->V->V->Hp->(Hp->Prop)->Prop
def Jn(X:Cx)(t:HS):Prop:=
 ∀(A5:List 'p') (s:Shared) (Y:St) (H:Hp) (o i v:V) (ov iv u:Value) (Q:Hp->Prop),Ab X A5 Y H s->Am o ov->Am i iv->Am v u->t o i v H Q->
  wpAny 'e' X.A (setItem ov iv u) (λ_ s'=>∃H',Ab X A5 Y H' s'/\Q H') X.xe s
abbrev TIp:=V->V->Hp->VK->Prop
instance PIp(X:Cx)(op:Operator)(t:TIp):Prop:=
 ∀(A5:List 'p') (s:Shared) (Y:St) (H:Hp) (x y:V) (v u:Value) (Q:VK),Ab X A5 Y H s->Am x v->Am y u->t x y H Q->
  wpAny 'e' X.A (inplaceOp op v u) (EP X A5 Y Q) X.xe s
def F7(i:Nat):TG:=λv Y H Q=>Q (Y.set i (some v)) H
def eO{i:Nat}{x:Str}(e:X.N.Nodup)(b:X.N[i]?=some x)(c:Loc X.env.scope x)(d:autoParam (X.fn x=true\/X.env.scope.names.lookup x=some .local) M3._auto_1):PG X (.Name x pos) (F7 i):=by
 intro a s Y H v u Q I r h;exact wpAny_assign_Name (cj I e b c r (λs' a=>{_,H,a,h}) d)
def Ki:TGs:=λvs Y H Q=>vs=[]/\Q Y H
def Kj(t:TG)(u:TGs):TGs:=λvs Y H Q=>∃v r,vs=v::r/\t v Y H λY' H'=>u r Y' H' Q
def fW:PGs X [] Ki:=by
 intro b s Y H a us Q I r h;obtain⟨e,h⟩:=h;subst e;cases r;exact assignInOrder_nil ⟨Y,H,I,h⟩
def du{e:Expr}{es:List Expr}{t:TG}{u:TGs}(b:PG X e t)(f:PGs X es u)(d:autoParam ((assignEach (e::es) X.env).map (·.2)=assign e X.env::(assignEach es X.env).map (·.2)) uR):PGs X (e::es) (Kj t u):=by
 intro a s Y H c us Q I r h;obtain⟨v,vr,c,h⟩:=h;subst c;cases r with
 | cons r e=>
   rw[d];refine assignInOrder_cons (ai (b a s Y H _ _ _ I r h) λ_ c hI68=>?_);obtain⟨d,H1,I1,b⟩:=hI68;exact f a c d H1 _ _ Q I1 e b
def Kk(K:FG)(n:Nat)(t:TGs):TG:=λv Y H Q=>∃a xs,v=.ref a/\AS K H a xs/\xs.length=n/\t xs Y H Q
def fX{k:Nat}{n:Nat}(o:X.calm=true)(h:PGs X es t)(m:autoParam ((assignEach es X.env).length=n) uR)(b:autoParam ((assignEach es X.env).findIdx? (·.1)=none) uR):PG X (.Tuple es k pos) (Kk X.K n t):=by
 intro d s Y H v u Q I r c;obtain⟨a,l,f,i,e,c⟩:=c;subst f;cases r;obtain⟨g,a,j,n⟩:=I.tuple i;refine assign_Tuple_tuple (I.ok.hd o) j (by simp[m,<-e,a.length]) b λg f=>?_
 have I1:Ab X d Y H { s with heap:=g }:=I.kept (t':=s.toks) λb o e=>f b o (Br (Heap.lt_size e)) e
 exact h d _ Y H l _ Q I1 (by simpa using a) c
def Jo(to ti:TE)(t:HS):TG:=λv Y H Q=>to Y H λo H1=>ti Y H1 λi H2=>t o i v H2 λH3=>Q Y H3
def n4{o i:Expr}{d ti:TE}{t:HS}(g:PE X o d)(j:PE X i ti)(e:Jn X t)(f:autoParam (∀v,assign (.Subscript o i pos) X.env v=(do
  let a <-holding [v] (eval o X.env)
  let b <-holding [v,a] (eval i X.env)
  standAt pos
  holding [v,a,b] (setItem a b v)
  release [v,a,b] [])) Nb._auto_1):PG X (.Subscript o i pos) (Jo d ti t):=by
 intro c s Y H v u Q I r h;rw[f];refine Ac (wpAny_holding (ai (g c s Y H _ I h) λa f hI69=>?_));obtain⟨x,H1,I1,h,d⟩:=hI69;refine Ac (wpAny_holding (ai (j c f Y H1 _ I1 d) λb f hI70=>?_));obtain⟨y,H2,I2,d,g⟩:=hI70;refine Ac (wpAny_standAt (Ac (wpAny_holding (ai (e c f Y H2 x y v a b u _ I2 h d r g) λ_ a hI71=>?_))));obtain⟨H3,I3,a⟩:=hI71;exact wpAny_release ⟨Y,H3,I3,a⟩
def F8(te:TE)(g:TG):TS:=λD Y H=>te Y H λx H1=>g x Y H1 D.nx
def fY{a e:Expr}{b:TE}{g:TG}(j:PE X e b)(f:PG X a g)(d:autoParam (swapsWithSole [a] e pos.line X.env=pure false) uR)(i:autoParam (swappedStores [a] e X.env=pure none) uR)(c:autoParam ((assignEach [a] X.env).map (·.2)=[assign a X.env]) uR):PS X (.Assign [a] e pos) (F8 b g):=by
 intro a s Y H D I h;refine wpAny_Assign_stores (ai (j a s Y H _ I h) λv e hI72=>?_) d i;obtain⟨x,H1,I1,g,b⟩:=hI72;rw[c];exact ai (f a e Y H1 x v _ I1 g b) λ_ a q=>q
def bF{i:Nat}{x:Str}{e:Expr}{b:TE}{a:Pos}(l:X.N.Nodup)(g:X.N[i]?=some x)(d:Loc X.env.scope x)(f:PE X e b)(c:autoParam (swapsWith e (some (.Name x a)) pos.line X.env=pure false) uR)(j:autoParam (X.fn x=true\/X.env.scope.names.lookup x=some .local) M3._auto_1) :
 PS X (.Assign [.Name x a] e pos) (F8 b (F7 i)):=by
 intro a s Y H D I h;refine wpAny_Assign_Name (ai (f a s Y H _ I h) λv a hI73=>?_) c;obtain⟨y,H1,I1,b,a⟩:=hI73;exact cj I1 l g d b (λc I2=>{_,H1,I2,a}) j
def Kl(i j:Nat)(ta:TA):TS:=λD Y H=>ta Y H λvs H1=>∃v w,vs=[v,w]/\D.nx ((Y.set i (some v)).set j (some w)) H1
def n5{i j:Nat}{x y:Str}{a b:Expr}{f:TA}{d c e:Pos}{kt k2 pt2}(z:X.calm=true)(r:X.N.Nodup)(B:X.N[i]?=some x)(u:X.N[j]?=some y)(l:i≠j)(n:X.env.scope.names.lookup x=some .local)(m:X.env.scope.names.lookup y=some .local)(g:PA X [a,b] f)(A:swappedStores [.Tuple [.Name x d,.Name y c] kt e] (.Tuple [a,b] k2 pt2) X.env=pure (some [x,y]))(o:autoParam (swapsWithSole [.Tuple [.Name x d,.Name y c] kt e] (.Tuple [a,b] k2 pt2) pos.line X.env=pure false) uR) :
 PS X (.Assign [.Tuple [.Name x d,.Name y c] kt e] (.Tuple [a,b] k2 pt2) pos) (Kl i j f):=by
 intro e s Y H D I h;rw[exec_Assign_arm];refine Ac (wpAny_standAt ?_);rw[o];refine Ac (Ao ?_);rw[if_neg 'z'];refine Ac (Tuple_ (ai (g _ e s Y H _ I h) λus c hI74=>?_));obtain⟨a,H1,I1,j,g⟩:=hI74;obtain⟨v,w,f,g⟩:=g;subst f;obtain⟨d,a,rfl,i,h⟩:∃d a,us=[d,a]/\Am v d/\Am w a:=by
  cases j with
  | cons p q=>
    cases q with
    | cons p' f=>
      cases f;exact{_,_,rfl,p,p'}
 refine wpAny_newObj_type ?_ (by show 2<=sizeLine;decide);have I2:Ab X e Y H1 { c with heap:=c.heap.push { cls:=.type "tuple",data:=.seq [d,a].toArray } }:=I1.kept (t':=c.toks) λb o e=>AJ _ e
 rw[A];refine Ac (Ao ?_);show wpAny 'e' X.A (do rule "assign.swapped-stores";let items <-unpackItems (.ref c.heap.objs.size) 2 none;assignInOrder [λv=>bindName X.env y v,λv=>bindName X.env x v] items.reverse;pure Flow.next) _ _ _;refine Ac (aZ (Ac (unpackItems_tuple (items:=#[d,a]) (I.ok.hd z) (IsTup.new c.heap _) λh' f=>?_)));have I3:=I2.kept (h':=h') (t':=c.toks) λb o e=>f b o (Br (Heap.lt_size e)) e
 show wpAny _ _ (assignInOrder [λv=>bindName X.env y v,λv=>bindName X.env x v] [a,d] >>= λ_=>pure Flow.next) _ _ _;refine Ac (assignInOrder_cons (wpAny_bindName (cj I3 r u (.inl m) h (λa I4=>?_) (.inr m))));refine assignInOrder_cons (wpAny_bindName (cj I4 r B (.inl n) i (λa I5=>assignInOrder_nil (Ao ?_)) (.inr n)));rw[List.set_comm _ _ (Ne.symm l)] at I5;exact{_,H1,I5,g}
def Km(i:Nat)(te:TE)(ti:TIp):TS:=λD Y H=>∃x,Y[i]?=some (some x)/\te Y H λy H1=>ti x y H1 λz H2=>D.nx (Y.set i (some z)) H2
def n6{i:Nat}{x:Str}{e:Expr}{b:TE}{f:Operator}{ti:TIp}{a:Pos}(B:X.N.Nodup)(j:X.N[i]?=some x)(d:Loc X.env.scope x)(p:PE X e b)(o:PIp X f ti)(A:autoParam (X.fn x=true\/X.env.scope.names.lookup x=some .local) M3._auto_1) :
 PS X (.AugAssign (.Name x a) f e pos) (Km i b ti):=by
 intro c s Y H D I h;obtain⟨v,n,h⟩:=h;obtain⟨m,q,b⟩:=I.loc;have a:Vis X.env.scope x:=by rcases d with k | k;exact .inl k;exact .inr (.inl k)
 obtain⟨u,r,l⟩:=b i x v j n a;refine wpAny_AugAssign_Name ?_;have g:wpAny 'e' X.A (eval e X.env) (λw b=>wpAny 'e' X.A (inplaceOp f u w) (λr a=>wpAny 'e' X.A (storeName X.env x r) (λ_=>SP X c D .next) X.xe a) X.xe b) X.xe s:=by
  refine ai (p c s Y H _ I h) λw b hI75=>?_
  obtain⟨y,H1,I1,e,a⟩:=hI75;refine ai (o c b Y H1 v y u w _ I1 r e a) λz b hI76=>?_
  obtain⟨c,H2,I2,a,b⟩:=hI76;exact cj I2 B j d a (λc I3=>{_,H2,I3,b}) A
 rcases l with⟨a,f⟩ | ⟨a,c,e,b⟩
 ·exact wpAny_loadName_local I.ok.kind a q f g
 ·rcases a with a | a
  ·exact wpAny_loadName_cell I.ok.kind a e b g
  ·rcases d with k | k
   ·have:X.env.scope.names.lookup x=some .free:=a
    rw[k] at this;cases this
   ·have:X.env.scope.names.lookup x=some .free:=a
    rw[k] at this;cases this
instance ipI(f:Int->Int->Int):TIp:=λx y H Q=>∃i j,x=.int i/\y=.int j/\Q (.int (f i j)) H
def v8:PIp X .Add (ipI λi j=>i+j):=by
 intro a s Y H x y v u Q I d a h;obtain⟨i,j,c,b,q⟩:=h;subst c;subst b;obtain⟨t,rfl⟩:=d;obtain⟨c,rfl⟩:=a;exact iadd_int {.int _,H,I.tok _,{_,rfl},q}
def Kn(c:TT)(tb:TS):TS:=λD Y H=>∃W:Nat->St->Hp->Prop,(∃m,W m Y H)/\∀m Y H,W m Y H->
 c Y H λb H1=>if b=true then ∃N:St->Hp->Prop,(∀Y' H',N Y' H'->∃m',m' < m/\W m' Y' H')/\tb { D with nx:=N,ct:=N,bk:=D.nx } Y H1 else D.nx Y H1
open H in
def n7{c:Expr}{a:List Stmt}{b:TT}{tb:TS}(e:PassesOwn 'e' X.A X.env X.xe)(d:PT X c b)(i:CP X a tb):PS X (.While c a [] pos) (Kn b tb):=by
 intro a s Y H D I h;obtain⟨W,⟨f,g⟩,turn⟩:=h;refine wpAny_While (codeAny_whileLoop (λn s'=>∃c b,Ab X a c b s'/\W n c b) ?_ f ⟨Y,H,I,g⟩);rintro n b ⟨c,H1,I1,f⟩;refine wpAny_passesOwn e (ai (d a b c H1 _ I1 (turn n c H1 f)) λb g hI77=>?_);obtain⟨H2,I2,d⟩:=hI77;cases b with
 | true=>
   obtain⟨N,h,d⟩:=d;rw[if_pos rfl];refine wpAny_passesOwn e (ai (i a g c H2 _ I2 d) λf a b=>?_);cases f with
   | next=>
     obtain⟨a,H3,I3,e⟩:=b;obtain⟨m',g,f⟩:=h a H3 e;exact⟨m',g,a,H3,I3,f⟩
   | cont=>
     obtain⟨a,H3,I3,e⟩:=b;obtain⟨m',g,f⟩:=h a H3 e;exact⟨m',g,a,H3,I3,f⟩
   | brk=>exact b
   | ret v=>exact b
 | false=>
   rw[if_neg BP];exact wpAny_execs_nil ⟨c,H2,I2,d⟩
structure It where
 go:Nat->Hp->Prop
 yld:Nat->Hp->V->Hp->Prop
 stop:Nat->Hp->Prop
def Di(X:Cx)(A5:List 'p')(H:Hp)(b:Addr):Prop:=
 H b=none/\b≠X.env.locals/\b∉X.fs/\(b∈X.ex\/X.s₀.heap.objs.size<=b)/\(∀x c,X.env.cells.lookup x=some c->c≠b)/\∀p∈X.pn++A5,p.1≠b
def Ab.fpOk{X:Cx}{d:List 'p'}{Y:St}{H c:Hp}{s:Shared}{b:Addr}(I:Ab X d Y H s)(a:s.heap.objs.size<=b)(e:c b=none):Di X d c b:=by
 refine{e,Nat.ne_of_gt (A6 I.lt a),I.nofs a,.inr (Az I.sz a),λx c e z=>?_,λp b z=>?_}
 ·obtain⟨v,q⟩:=I.cell x c e
  exact absurd (A6 q.lt (by rw[z];exact a)) (Dd _)
 ·exact absurd (A6 (Heap.lt_size (I.pin p b).1) (by rw[z];exact a)) (Dd _)
structure E2(P:Program)(w:World)(K:FG)(tg:Expr)(J:It)(fp:List Addr)(it:Addr)(tn:Nat->Heap->Prop):Prop where
 mem:it∈fp
 obj:∀i h,tn i h->∀b∈fp,∃o,h.get? b=some o/\∀v,o.data≠.cell v
 keep:∀i h h',tn i h->(∀b∈fp,∀o,h.get? b=some o->h'.get? b=some o)->tn i h'
 item:∀(X:Cx),X.prog=P->X.w=w->X.K=K->X.calm=true->∀(i:Nat) (A5:List 'p') (s:Shared) (Y:St) (H:Hp) (E:Value->Shared->Prop),Ab X A5 Y H s->(∀b∈fp,Di X A5 H b)->tn i s.heap->J.go i H->
  wpAny (model P w) X.A (pyNext (.ref it)) (λr s1=>∃u,r=some u/\
   wpAny (model P w) X.A (letOwnedTupleGo tg (.ref it) u) (λ_ s2=>∃x H',Ab X A5 Y H' s2/\Am x u/\J.yld i H x H'/\tn (i+1) s2.heap/\∀b∈fp,H' b=none) E s1) E s
 done:∀(X:Cx),X.prog=P->X.w=w->X.K=K->X.calm=true->∀(i:Nat) (A5:List 'p') (s:Shared) (Y:St) (H:Hp) (E:Value->Shared->Prop),Ab X A5 Y H s->(∀b∈fp,Di X A5 H b)->tn i s.heap->J.stop i H->
  wpAny (model P w) X.A (pyNext (.ref it)) (λr s1=>r=none/\Ab X A5 Y H s1) E s
 self:∀(A:Around) (i:Nat) (s:Shared) (Q:Value->Shared->Prop) (E:Value->Shared->Prop),tn i s.heap->Q (.ref it) s->wpAny (model P w) A (pyIter (.ref it)) Q E s
abbrev TI:=St->Hp->(It->Hp->Prop)->Prop
instance PIE(X:Cx)(A5:List 'p')(Y:St)(tg:Expr)(R:It->Hp->Prop)(itv:Value)(s2:Shared):Prop:=
 ∃(it:Addr) (fp:List Addr) (tn:Nat->Heap->Prop) (J:It) (H':Hp),itv=.ref it/\Ab X A5 Y H' s2/\E2 X.prog X.w X.K tg J fp it tn/\tn 0 s2.heap/\(∀b∈fp,Di X A5 H' b)/\R J H'
instance PI(X:Cx)(tg iter:Expr)(wi:TI):Prop:=
 ∀(A5:List 'p') (s:Shared) (Y:St) (H:Hp) (R:It->Hp->Prop),Ab X A5 Y H s->wi Y H R->
  wpAny 'e' X.A (eval iter X.env) (λv s1=>wpAny 'e' X.A (pyIter v) (PIE X A5 Y tg R) X.xe s1) X.xe s
def fZ{n:String}(c:s.heap.get? it=some o)(e:o.cls=.type n)(b:o.data=.fields d)(f:["enumerate","zip","dict_itemiterator","dict_reverseitemiterator","odict_iterator","itertools.zip_longest","itertools.pairwise"].contains n=false)(a:Q () s):wpAny M A (letOwnedTupleGo tg (.ref it) u) Q E s:=by
 delta letOwnedTupleGo;cases tg<;>first
  | exact Ao a
  | (cases u<;>first
   | exact Ao a
   | (refine Ac (wpAny_load c ?_)
      rw[e,b];show wpAny M A (if (["enumerate","zip","dict_itemiterator","dict_reverseitemiterator","odict_iterator","itertools.zip_longest","itertools.pairwise"].contains n&&d[0]? == some (rawInt _))=true then _ else _) Q E s;rw[if_neg (by intro h;rw[f,Bool.false_and] at h;cases h)];exact Ao a))
instance Itl(K:FG)(a:Addr):It:=
 {λi H=>∃xs x,AY K H a xs/\xs[i]?=some x,λi H x H'=>H'=H/\∀xs,AY K H a xs->xs[i]?=some x,λi H=>∃xs,AY K H a xs/\xs.length<=i}
instance Itt(K:FG)(a:Addr):It:=
 {λi H=>∃xs x,AS K H a xs/\xs[i]?=some x,λi H x H'=>H'=H/\∀xs,AS K H a xs->xs[i]?=some x,λi H=>∃xs,AS K H a xs/\xs.length<=i}
instance Itr(lo:Int)(n:Nat):It:={λi _=>i<n,λi H x H'=>H'=H/\x=.int (lo+i),λi _=>n<=i}
def n8{P:Program}{w:World}{K:FG}{b:Expr}(a f:Addr):E2 P w K b (Itl K a) [f] f (λi h=>h.IsListIter f a i) where
 mem:=by simp
 obj:=λi h a b g=>by
  have e:b=f:=by simpa using g
  subst e;obtain⟨o,e,c,d⟩:=a;exact{o,e,λv z=>by rw[d] at z;cases z}
 keep:=λi h m a k=>a.at λo e=>k f 'd' o e
 item:=by
  intro X M A z P i O s Y H E I n a q;subst M A z;obtain⟨R,x,l,B⟩:=q;obtain⟨J,C,p,U⟩:=I.list l;obtain⟨u,Q,T⟩:=C.get B;obtain⟨G,r,f2,v,N,y⟩:=n f 'd';refine wpAny_pyNext_list_item a p.isList (x:=u) (by simpa using Q) λm j W=>?_
  have I1:Ab X O Y H { s with heap:=m }:=I.turned (t':=s.toks) (λb o g e=>(W.2 b g).trans e) G r v N y;obtain⟨o,e,c,d⟩:=id j;exact{u,rfl,fZ (s:={ s with heap:=m }) e c d 'z' {x,H,I1,T,{rfl,λd c=>by rw[I.list_inj c l];exact B},j,λb g=>(n b g).1}}
 done:=by
  intro X M A z P i O s Y H E I n a q;subst M A z;obtain⟨R,l,B⟩:=q;obtain⟨J,C,p,U⟩:=I.list l;obtain⟨G,r,f2,v,N,y⟩:=n f 'd';have c:=C.length;exact wpAny_pyNext_list_end (I.ok.hd P) a p.isList (by simp;omega) λm c=>{rfl,I.turned (t':=s.toks) (λb o g e=>c b o g e) G r v N y}
 self:=λ_ _ _ _ _ a h=>wpAny_pyIter_listiter a h
def n9{P:Program}{w:World}{K:FG}{b:Expr}(a g:Addr):E2 P w K b (Itt K a) [g] g (λi h=>h.IsTupleIter g a i) where
 mem:=by simp
 obj:=λi h f b l=>by
  have e:b=g:=by simpa using l
  subst e;obtain⟨o,e,c,d⟩:=f;exact{o,e,λv z=>by rw[d] at z;cases z}
 keep:=λi h q f k=>f.at λo e=>k g 'd' o e
 item:=by
  intro X N C B Q i P s Y H E I r f v;subst N C B;obtain⟨T,x,n,G⟩:=v;obtain⟨j,J,p,W⟩:=I.tuple n;obtain⟨u,R,U⟩:=J.get G;obtain⟨M,y,f2,z,O,A⟩:=r g 'd';refine wpAny_pyNext_tuple_item f (show s.heap.IsTuple a j.toArray from p) (x:=u) (by simpa using R) λq m Z=>?_
  have I1:Ab X P Y H { s with heap:=q }:=I.turned (t':=s.toks) (λb o l e=>(Z.2 b l).trans e) M y z O A;obtain⟨o,e,c,d⟩:=id m;exact{u,rfl,fZ (s:={ s with heap:=q }) e c d 'z' {x,H,I1,U,{rfl,λd c=>by rw[I.tuple_inj c n];exact G},m,λb l=>(r b l).1}}
 done:=by
  intro X N C B Q i P s Y H E I r f v;subst N C B;obtain⟨T,n,G⟩:=v;obtain⟨j,J,p,W⟩:=I.tuple n;obtain⟨M,y,f2,z,O,A⟩:=r g 'd';have c:=J.length;exact wpAny_pyNext_tuple_end (I.ok.hd Q) f (show s.heap.IsTuple a j.toArray from p) (by simp;omega) λq a=>{rfl,I.turned (t':=s.toks) (λb o l e=>a b o l e) M y z O A}
 self:=λ_ _ _ _ _ f h=>wpAny_pyIter_tupleiter f h
def oa{P:Program}{w:World}{K:FG}{a:Expr}(c:Addr)(j:Int)(n:Nat):E2 P w K a (Itr j n) [c] c (λi h=>IsRangeIter h c (j+(i:Nat)*1) ((n:Int)-(i:Nat)) 1) where
 mem:=by simp
 obj:=λi h a b d=>by
  have e:b=c:=by simpa using d
  subst e;exact{_,a,λv z=>by
   have z':Data.fields _=Data.cell v:=z;cases z'}
 keep:=λi h g a k=>k c 'd' _ a
 item:=by
  intro X z r m B i C s Y H E I l a p;subst z r m;obtain⟨y,q,f2,u,A,x⟩:=l c 'd';have W:=Walks.range (prog:=X.prog) (w:=X.w) (I.ok.hd B) c j 1 n;refine W.item i s _ _ p a λv g G o f J=>?_
  obtain⟨t,rfl⟩:=o;have I1:Ab X C Y H { s with heap:=g,toks:=G }:=I.turned (λb o d e=>J b o (by simpa using d) e) y q u A x;refine{_,rfl,fZ (s:={ s with heap:=g,toks:=G }) (n:="range_iterator") f rfl rfl 'z' {.int (j+i),H,I1,{t,?_},⟨rfl,rfl⟩,f,λb d=>(l b d).1}};rw[Int.mul_one]
 done:=by
  intro X z r m B i C s Y H E I l a p;subst z r m;obtain⟨y,q,f2,u,A,x⟩:=l c 'd';exact wpAny_pyNext_range_end (I.ok.hd B) a (by have:n<=i:=p;omega) λg c=>{rfl,I.turned (t':=s.toks) (λb o d e=>c b o d e) y q u A x}
 self:=λ_ _ _ _ _ a h=>wpAny_pyIter_rangeiter a h
def Ko(K:FG)(tl:TE):TI:=λY H R=>tl Y H λx H1=>∃a,x=.ref a/\(∃xs,AY K H1 a xs)/\R (Itl K a) H1
def Kp(K:FG)(tl:TE):TI:=λY H R=>tl Y H λx H1=>∃a,x=.ref a/\(∃xs,AS K H1 a xs)/\R (Itt K a) H1
def iT{l:Expr}{a:TE}(b:PE X l a):PI X tg l (Ko X.K a):=by
 intro c s Y H R I h;refine ai (b c s Y H _ I h) λv c hI78=>?_
 obtain⟨x,H1,I1,g,b⟩:=hI78;obtain⟨a,e,⟨f,d⟩,q⟩:=b;subst e;cases g;obtain⟨f,h,p,b⟩:=I1.list d;refine wpAny_pyIter_list p.isList ?_;refine{c.heap.objs.size,[c.heap.objs.size],_,_,H1,rfl,I1.kept (t':=c.toks) λb o e=>AJ _ e,n8 a _,{_,Be _ rfl,rfl,rfl},λb a=>?_,q};have e:b=c.heap.objs.size:=by simpa using a
 subst e;exact I1.fpOk (Ap _) (I1.hok.fresh (Ap _))
def oe{l:Expr}{a:TE}(b:PE X l a):PI X tg l (Kp X.K a):=by
 intro c s Y H R I h;refine ai (b c s Y H _ I h) λv c hI79=>?_
 obtain⟨x,H1,I1,g,d⟩:=hI79;obtain⟨a,e,⟨b,f⟩,q⟩:=d;subst e;cases g;obtain⟨b,h,p,d⟩:=I1.tuple f;refine wpAny_pyIter_tuple (show c.heap.IsTuple a b.toArray from p) ?_;refine{c.heap.objs.size,[c.heap.objs.size],_,_,H1,rfl,I1.kept (t':=c.toks) λb o e=>AJ _ e,n9 a _,{_,Be _ rfl,rfl,rfl},λb a=>?_,q};have e:b=c.heap.objs.size:=by simpa using a
 subst e;exact I1.fpOk (Ap _) (I1.hok.fresh (Ap _))
def og{d:List 'p'}{Y:St}{H:Hp}{s:Shared}{R:It->Hp->Prop}{E:Value->Shared->Prop}{a c:Int}{t u v:Tok}{f:Nat}(I:Ab X d Y H s)(b:-(2 ^ 62)<=a)(g:a<2 ^ 62)(h:-(2 ^ 62)<=c)(e:c<2 ^ 62)(q:R (Itr a (c-a).toNat) H):wpAny 'e' X.A (pyIter (.ref s.heap.objs.size)) (PIE X d Y tg R) E { s with heap:=s.heap.push { cls:=.type "range",data:=.fields #[.int a t,.int c u,.int 1 v] },toks:=f }:=by
 refine wpAny_pyIter_range (IsRange.new ..) (small_one b g h e) ?_;have I1:Ab X d Y H { s with heap:=s.heap.push { cls:=.type "range",data:=.fields #[.int a t,.int c u,.int 1 v] },toks:=f }:=I.kept λb o e=>AJ _ e
 refine{(s.heap.push { cls:=.type "range",data:=.fields #[.int a t,.int c u,.int 1 v] }).objs.size,[(s.heap.push { cls:=.type "range",data:=.fields #[.int a t,.int c u,.int 1 v] }).objs.size],_,_,H,rfl,I1.kept (t':=f) λb o e=>AJ _ e,oa _ a (c-a).toNat,?_,λb g=>?_,q}
 ·have f:a+((0:Nat):Int)*1=a:=by simp
  have h:(((c-a).toNat:Nat):Int)-((0:Nat):Int)=Builtin.Range.rangeSize a c 1:=by rw[rangeSize_one];split<;>omega
  show IsRangeIter _ _ (a+((0:Nat):Int)*1) ((((c-a).toNat:Nat):Int)-((0:Nat):Int)) 1;rw[f,h];exact Be _ rfl
 ·have e:b=(s.heap.push { cls:=.type "range",data:=.fields #[.int a t,.int c u,.int 1 v] }).objs.size:=by simpa using g
  subst e;exact I1.fpOk (Ap _) (I1.hok.fresh (Ap _))
def Kq(ta:TA):TI:=λY H R=>ta Y H λvs H1=>∃j:Int,vs=[.int j]/\-(2 ^ 62)<=j/\j<2 ^ 62/\R (Itr 0 j.toNat) H1
def oh{a:Expr}{b:TA}{p pos:Pos}(e:Gl X "range")(d:X.mg "range" = none)(f:PA X [a] b)(c:autoParam (starEach [a] X.env=[(false,eval a X.env)]) uR):PI X tg (.Call (.Name "range" p) [a] [] pos) (Kq b):=by
 intro a s Y H R I h;refine Call_ (cA I e d boot_range (PyProof.Rows.callWith_type1 (ai (f pos a s Y H _ I h) λus a hI80=>?_) c rfl));obtain⟨b,H1,I1,d,a⟩:=hI80;obtain⟨j,e,a,c,q⟩:=a;subst e;cases d with
 | cons r b=>
   cases b;obtain⟨t,rfl⟩:=r;exact call_range_1 (og I1 'o' 'o' a c (by simpa using q))
def Kr(wi:TI)(g:TG)(tb:TS):TS:=λD Y H=>wi Y H λJ H1=>∃W:Nat->Nat->St->Hp->Prop,(∃m,W 0 m Y H1)/\∀i m Y H,W i m Y H->
 (J.stop i H/\D.nx Y H)\/(J.go i H/\∃N:St->Hp->Prop,(∀Y' H',N Y' H'->∃m',m' < m/\W (i+1) m' Y' H')/\∀x H',J.yld i H x H'->g x Y H' λY2 H2=>tb { D with nx:=N,ct:=N,bk:=D.nx } Y2 H2)
def GC(fp:List Addr)(h:Heap):List 'p':=fp.filterMap λb=>(h.get? b).map λo=>(b,o)
def eP{a:List Addr}{h:Heap}{b:Addr}{o:Obj}(c:b∈a)(e:h.get? b=some o):(b,o)∈GC a h:=List.mem_filterMap.mpr {b,c,by rw[e];rfl}
def oi(c:p∈GC fp h):p.1∈fp/\h.get? p.1=some p.2:=by
 obtain⟨b,a,e⟩:=List.mem_filterMap.mp c;cases q:h.get? b with
 | none=>rw[q] at e;cases e
 | some o=>
   rw[q] at e;have e':(b,o)=p:=Option.some.inj e;subst e';exact⟨a,q⟩
def Ab.pinned{a:List 'p'}{Y:St}{H:Hp}{s:Shared}{c:List Addr}(I:Ab X a Y H s)(h:∀b∈c,Di X a H b)(f:∀b∈c,∃o,s.heap.get? b=some o/\∀v,o.data≠.cell v):Ab X (a++GC c s.heap) Y H s:=
 I.pins_of λp b=>(BN.mp b).elim (λz=>I.pin p (EA _ z)) λz=>by
  obtain⟨b,e⟩:=oi z;obtain⟨c,g,f2,_⟩:=h p.1 b;obtain⟨o,e',d⟩:=f p.1 b;rw[e] at e';cases e';exact⟨e,c,g,f2,d⟩
def Ab.unpinned{a b:List 'p'}{Y:St}{H:Hp}{s:Shared}(I:Ab X (a++b) Y H s):Ab X a Y H s:=I.pins_of λp b=>I.pin p (EA _ (Ff _ b))
open H in
def oj{a:Expr}{b:List Stmt}{d:TI}{g:TG}{tb:TS}{pos:Pos}(m:PassesOwn 'e' X.A X.env X.xe)(u:X.calm=true)(E:PI X tg a d)(y:PG X tg g)(c:CP X b tb)(f:autoParam (∀x,foldedSetIterable a X.env x=pure x) Nb._auto_1):PS X (.For tg a b [] pos) (Kr d g tb):=by
 intro j s Y H D I h;refine wpAny_For (ai (E j s Y H _ I h) λv e b=>ai b λd g a=>?_) f;obtain⟨b,l,s,J,H2,e,I2,T,f,f2,W,⟨p,h⟩,turn⟩:=a;subst e
 -- what stays true of the iterator's objects through the loop
 have a:∀{d:Hp},(∀b∈l,d b=none)->∀b∈l,Di X j d b:=λg b c=>{g b c,(f2 b c).2}
 refine codeAny_forLoop_any (λn s'=>∃i o d,Ab X j o d s'/\s i s'.heap/\(∀b∈l,d b=none)/\W i n o d) ?_ p {0,Y,H2,I2,f,λb c=>(f2 b c).1,h};rintro n q ⟨i,g,H3,I3,p,f,r⟩;rcases turn i n g H3 r with⟨h,z⟩ | ⟨A,N,C,step⟩
 ·refine wpAny_passesOwn m (ai (T.done X rfl rfl rfl u i j q g H3 X.xe I3 (a f) p h) λr B hI81=>?_)
  obtain⟨h,I4⟩:=hI81;subst h;exact wpAny_execs_nil ⟨g,H3,I4,z⟩
 ·refine wpAny_passesOwn m (ai (T.item X rfl rfl rfl u i j q g H3 X.xe I3 (a f) p A) λr B hI82=>?_)
  obtain⟨u,h,f⟩:=hI82;subst h;refine wpAny_passesOwn m (ai f λ_ q hI83=>?_);obtain⟨x,H5,I5,p,r,h,f⟩:=hI83;have I5':=I5.pinned (a f) (T.obj _ _ h);refine wpAny_passesOwn m (ai (y _ q g H5 x u _ I5' p (step x H5 r)) λ_ a hI84=>?_);obtain⟨g,H6,I6,r⟩:=hI84;refine wpAny_passesOwn m (ai (c _ a g H6 _ I6 r) λf p g=>?_);have again:∀{a:St} {H7:Hp},Ab X (j++GC l q.heap) a H7 p->N a H7->∃m,m<n/\∃i o d,Ab X j o d p/\s i p.heap/\(∀b∈l,d b=none)/\W i m o d:=λ{a H7} I7 j=>by
   obtain⟨m',d,l⟩:=C a H7 j;refine{m',d,i+1,a,H7,I7.unpinned,T.keep _ _ _ h λb c o e=>(I7.pin (b,o) (EA _ (EA _ (eP c e)))).1,λb c=>?_,l};obtain⟨o,e,d⟩:=T.obj _ _ h b c;exact(I7.pin (b,o) (EA _ (EA _ (eP c e)))).2.1
  cases f with
  | next=>obtain⟨a,H7,I7,j⟩:=g;exact again I7 j
  | cont=>obtain⟨a,H7,I7,j⟩:=g;exact again I7 j
  | brk=>obtain⟨a,H7,I7,g⟩:=g;exact⟨a,H7,I7.unpinned,g⟩
  | ret v=>obtain⟨c,a,H7,I7,b,g⟩:=g;exact⟨c,a,H7,I7.unpinned,b,g⟩
abbrev R2:=V->V->Hp->VK->Prop
def A8(X:Cx)(f:Value->Value->Sem Value)(r:R2):Prop:=
 ∀(A5:List 'p') (s:Shared) (Y:St) (H:Hp) (x y:V) (v u:Value) (Q:VK),Ab X A5 Y H s->Am x v->Am y u->r x y H Q->
  wpAny 'e' X.A (f v u) (EP X A5 Y Q) X.xe s
instance UnR(X:Cx)(f:Value->Sem Value)(r:V->Hp->VK->Prop):Prop:=
 ∀(A5:List 'p') (s:Shared) (Y:St) (H:Hp) (x:V) (v:Value) (Q:VK),Ab X A5 Y H s->Am x v->r x H Q->
  wpAny 'e' X.A (f v) (EP X A5 Y Q) X.xe s
def Ch(X:Cx)(f:Value)(r:List V->Hp->VK->Prop):Prop:=
 ∀(A5:List 'p') (s:Shared) (Y:St) (H:Hp) (xs:List V) (us:List Value) (Q:VK),Ab X A5 Y H s->Aq xs us->r xs H Q->
  wpAny 'e' X.A (call f us) (EP X A5 Y Q) X.xe s
instance tOp(r:R2)(ta tb:TE):TE:=λY H Q=>ta Y H λx H1=>tb Y H1 λy H2=>r x y H2 Q
instance tUn(r:V->Hp->VK->Prop)(ta:TE):TE:=λY H Q=>ta Y H λx H1=>r x H1 Q
instance rI(C:Int->Int->Prop)(g:Int->Int->V):R2:=λx y H Q=>∃i j,x=.int i/\y=.int j/\C i j/\Q (g i j) H
def Ei(g:Int->Int->V):R2:=λx y H Q=>∃i j,x=.int i/\y=.int j/\Q (g i j) H
instance rU(g:Int->V):V->Hp->VK->Prop:=λx H Q=>∃i,x=.int i/\Q (g i) H
def f4(g:PE X a ta)(i:PE X b tb){d:List 'p'}{s:Shared}{Y:St}{H:Hp}{R:V->V->Hp->Prop}(I:Ab X d Y H s)(h:ta Y H λx H1=>tb Y H1 λy H2=>R x y H2){Q:Value->Shared->Prop}{f:Value->Value->Sem Value}(j:∀v u e x y H2,Ab X d Y H2 e->Am x v->Am y u->R x y H2->wpAny 'e' X.A (f v u) Q X.xe e) :
 wpAny 'e' X.A (eval a X.env) (λv c=>wpAny 'e' X.A (eval b X.env) (λu a=>wpAny 'e' X.A (f v u) Q X.xe a) X.xe c) X.xe s:=by
 refine ai (g d s Y H _ I h) λv b hI85=>?_
 obtain⟨x,H1,I1,c,a⟩:=hI85;refine ai (i d b Y H1 _ I1 a) λu e hI86=>?_
 obtain⟨y,H2,I2,a,b⟩:=hI86;exact j v u e x y H2 I2 c a b
def aR{c:Operator}{r:R2}(d:A8 X (binaryOp c) r)(f:PE X a ta)(e:PE X b tb):PE X (.BinOp a c b pos) (tOp r ta tb):=by
 intro b s Y H Q I h;exact wpAny_BinOp (f4 f e I h λv u g x y H2 I2 a c q=>d b g Y H2 x y v u Q I2 a c q)
def om{b:UnaryOp}{r:V->Hp->VK->Prop}(d:UnR X (unaryOp b) r)(c:PE X a ta):PE X (.UnaryOp b a pos) (tUn r ta):=by
 intro a s Y H Q I h;exact UnaryOp_ (ai (c a s Y H _ I h) λv c ⟨x,H1,I1,e,b⟩=>d a c Y H1 x v Q I1 e b)
def opI{f:Value->Value->Sem Value}{C:Int->Int->Prop}{g:Int->Int->Int}(rule:∀(i j:Int) (t u:Tok) (s:Shared) (Q:Value->Shared->Prop) (E:Value->Shared->Prop),C i j->Q (.int (g i j) s.toks) { s with toks:=s.toks+1 }->wpAny 'e' X.A (f (.int i t) (.int j u)) Q E s) :
 A8 X f (rI C λi j=>.int (g i j)):=by
 intro a s Y H x y v u Q I a c h;obtain⟨i,j,rfl,rfl,d,q⟩:=h;obtain⟨t,rfl⟩:=a;obtain⟨b,rfl⟩:=c;exact rule i j t b s _ _ d {.int (g i j),H,I.tok _,{_,rfl},q}
def iU{f:Value->Value->Sem Value}{g:Int->Int->Int}(rule:∀(i j:Int) (t u:Tok) (s:Shared) (Q:Value->Shared->Prop) (E:Value->Shared->Prop),Q (.int (g i j) s.toks) { s with toks:=s.toks+1 }->wpAny 'e' X.A (f (.int i t) (.int j u)) Q E s) :
 A8 X f (Ei λi j=>.int (g i j)):=by
 intro a s Y H x y v u Q I a c h;obtain⟨i,j,rfl,rfl,q⟩:=h;obtain⟨t,rfl⟩:=a;obtain⟨b,rfl⟩:=c;exact rule i j t b s _ _ {.int (g i j),H,I.tok _,{_,rfl},q}
def eQ{f:Value->Value->Sem Value}{g:Int->Int->Bool}(rule:∀(i j:Int) (t u:Tok) (s:Shared) (Q:Value->Shared->Prop) (E:Value->Shared->Prop),Q (.bool (g i j)) s->wpAny 'e' X.A (f (.int i t) (.int j u)) Q E s) :
 A8 X f (Ei λi j=>.bl (g i j)):=by
 intro a s Y H x y v u Q I a c h;obtain⟨i,j,rfl,rfl,q⟩:=h;obtain⟨t,rfl⟩:=a;obtain⟨b,rfl⟩:=c;exact rule i j t b s _ _ {.bl (g i j),H,I,rfl,q}
def F9(i j:Int):Prop:=0<j/\j<1073741824
def Jp(i j:Int):Prop:=j≠0/\j.natAbs<1073741824
def HU(i j:Int):Prop:=0<=j/\j<=1000000/\i.natAbs<2 ^ 64
def DR(i j:Int):Prop:=(-(2 ^ 64)<i/\i<2 ^ 64)\/(-(2 ^ 64)<j/\j<2 ^ 64)
def DR.ok{i j:Int}(h:DR i j):IntMulOk i j:=by
 rcases h with⟨b,a⟩ | ⟨b,a⟩
 ·exact .of_left (intBits_le_64 b a)
 ·exact .of_right (intBits_le_64 b a)
def dw:A8 X (binaryOp .Add) (Ei λi j=>.int (i+j)):=iU λ_ _ _ _ _ _ _ q=>add_int q
def v9:A8 X (binaryOp .Sub) (Ei λi j=>.int (i-j)):=iU λ_ _ _ _ _ _ _ q=>sub_int q
def cB:A8 X (binaryOp .Mult) (rI DR λi j=>.int (i*j)):=opI λ_ _ _ _ _ _ _ a q=>mul_int q a.ok
def oo:A8 X (binaryOp .FloorDiv) (rI F9 λi j=>.int (i / j)):=opI λi j _ _ _ _ _ a q=>by
 have b:(0:Int)<j:=a.1;have b:j<1073741824:=a.2;exact floordiv_int 'o' (by rw[Int.fdiv_eq_ediv_of_nonneg i 'o'];exact q) (.inl (PyProof.noPylong_small 'o'))
def cU:A8 X (binaryOp .Mod) (rI (λ_ j=>0<j) λi j=>.int (i % j)):=opI λi j _ _ _ _ _ a q=>by
 have b:(0:Int)<j:=a;exact mod_int' 'o' (by rw[Int.fmod_eq_emod_of_nonneg i 'o'];exact q)
def oq:A8 X (binaryOp .Pow) (rI HU λi j=>.int (i ^ j.toNat)):=opI λ_ _ _ _ _ _ _ a q=>pow_int_small a.1 a.2.1 a.2.2 q
def unI{f:Value->Sem Value}{g:Int->Int}(rule:∀(i:Int) (t:Tok) (s:Shared) (Q:Value->Shared->Prop) (E:Value->Shared->Prop),Q (.int (g i) s.toks) { s with toks:=s.toks+1 }->wpAny 'e' X.A (f (.int i t)) Q E s) :
 UnR X f (rU λi=>.int (g i)):=by
 intro a s Y H x v Q I a h;obtain⟨i,rfl,q⟩:=h;obtain⟨t,rfl⟩:=a;exact rule i t s _ _ {.int (g i),H,I.tok _,{_,rfl},q}
def ou:UnR X (unaryOp .USub) (rU λi=>.int (-i)):=unI λ_ _ _ _ _ q=>neg_int q
def iV{k k':Bool}(I:Ab X a Y H s)(q:Q (.bl k) H)(e:k=k'):EP X a Y Q (.bool k') s:=by
 subst e;exact{.bl k,H,I,rfl,q}
def wa:A8 X (compareOp .Lt) (Ei λi j=>.bl (decide (i<j))):=eQ λ_ _ _ _ _ _ _ q=>lt_int q
def wb:A8 X (compareOp .LtE) (Ei λi j=>.bl (decide (i<=j))):=eQ λ_ _ _ _ _ _ _ q=>le_int q
def wc:A8 X (compareOp .Gt) (Ei λi j=>.bl (decide (j<i))):=eQ λ_ _ _ _ _ _ _ q=>gt_int q
def ox:A8 X (compareOp .GtE) (Ei λi j=>.bl (decide (j<=i))):=eQ λ_ _ _ _ _ _ _ q=>ge_int q
def wd:A8 X (compareOp .Is) (λx y H Q=>y=.non/\Q (.bl (decide (x=.non))) H):=by
 intro a s Y H x y v u Q I a b h;obtain⟨rfl,q⟩:=h;cases b;refine is_none_gen (iV I q ?_);cases x<;>first
  | (cases a;rfl)
  | (obtain⟨t,rfl⟩:=a;rfl)
def we:A8 X (compareOp .IsNot) (λx y H Q=>y=.non/\Q (.bl (!decide (x=.non))) H):=by
 intro a s Y H x y v u Q I a b h;obtain⟨rfl,q⟩:=h;cases b;refine isnot_none_gen (iV I q ?_);cases x<;>first
  | (cases a;rfl)
  | (obtain⟨t,rfl⟩:=a;rfl)
def A8.or(h:A8 X f r)(d:A8 X f r'):A8 X f (λx y H Q=>r x y H Q\/r' x y H Q):=by
 intro b s Y H x y v u Q I a c q;rcases q with q | q
 ·exact h b s Y H x y v u Q I a c q
 ·exact d b s Y H x y v u Q I a c q
def iW(b:Expr)(h:autoParam (op≠.In) uD)(a:autoParam (op≠.NotIn) uD):behindInMarks op b=false:=by
 have c:(op == CmpOp.In)=false:=by cases op<;>first | rfl | exact absurd rfl h
 have d:(op == CmpOp.NotIn)=false:=by cases op<;>first | rfl | exact absurd rfl a
 cases b<;>simp[behindInMarks,c,d]
def oy(e:A8 X (compareOp op) r)(c:PE X a ta)(g:PE X b tb)(f:behindInMarks op b=false):PE X (.Compare a [op] [b] pos) (tOp r ta tb):=by
 intro b s Y H Q I h;exact wpAny_Compare1 (f4 c g I h λv u d x y H2 I2 a c q=>e b d Y H2 x y v u Q I2 a c q) f
def Ks(t:TE):TT:=λY H Q=>t Y H λx H'=>∃k,x=.bl k/\Q k H'
def f6{c:CmpOp}{r:R2}(d:A8 X (compareOp c) r)(g:PE X a ta)(e:PE X b tb)(f:behindInMarks c b=false):PT X (.Compare a [c] [b] pos) (Ks (tOp r ta tb)):=by
 intro a s Y H Q I h;refine wpAny_isTrue_Compare1 (ai (g a s Y H _ I h) λv c ⟨x,H1,I1,g,b⟩=>ai (e a c Y H1 _ I1 b) λu c ⟨y,H2,I2,b,e⟩=>ai (d a c Y H2 x y v u _ I2 g b e) λc a hI87=>?_) f;obtain⟨z,H3,I3,a,k,e,b⟩:=hI87;subst e;cases a;exact Ec ⟨H3,I3,b⟩
def Jq(r r':R2)(ta tb tc:TE):TE:=λY H Q=>ta Y H λx H1=>tb Y H1 λy H2=>r x y H2 λz H3=>∃k,z=.bl k/\
 (if k=true then tc Y H3 λw' H4=>r' y w' H4 Q else Q (.bl false) H3)
def oz{e d:CmpOp}{r r':R2}(i:A8 X (compareOp e) r)(f:A8 X (compareOp d) r')(g:PE X a ta)(l:PE X b tb)(m:PE X c tc)(j:autoParam (lastMarks [e,d] [b,c]=false) Nc._auto_1):PE X (.Compare a [e,d] [b,c] pos) (Jq r r' ta tb tc):=by
 intro a s Y H Q I h;refine Compare_chain (ai (g a s Y H _ I h) λv c ⟨x,H1,I1,h,b⟩=>chain_link (ai (l a c Y H1 _ I1 b) λu c ⟨y,H2,I2,b,e⟩=>ai (i a c Y H2 x y v u _ I2 h b e) λd g hI88=>?_)) j;obtain⟨z,H3,I3,d,k,e,c⟩:=hI88;subst e;cases d;refine Ec ?_;cases k with
 | false=>exact ite_ff {.bl false,H3,I3,rfl,c}
 | true=>exact ite_tt (chain_last (ai (m a g Y H3 _ I3 c) λw' e ⟨z',d,I4,g,c⟩=>f a e Y d y z' u w' Q I4 b g c))
def dz:(sizeLine:Nat)<2 ^ 63:=by rw[sizeLine_eq];decide
def br(r:Aq [x] us):∃u,us=[u]/\Am x u:=by
 cases r with
 | cons b a=>cases a;exact{_,rfl,b}
def f7(r:Aq [x,y] us):∃u w',us=[u,w']/\Am x u/\Am y w':=by
 cases r with
 | cons c a=>
   cases a with
   | cons d b=>cases b;exact{_,_,rfl,c,d}
def wf(a:X.calm=true):Ch X (.builtin "min") (λb H Q=>∃i j,b=[.int i,.int j]/\Q (.int (if j<i then j else i)) H):=by
 intro c s Y H b us Q I r h;obtain⟨i,j,rfl,q⟩:=h;obtain⟨u,w',rfl,⟨t,rfl⟩,⟨c,rfl⟩⟩:=f7 r;refine min_two_ints (I.ok.hd a) λc d k=>{_,H,I.kept k,?_,q}
 by_cases a:j<i
 ·rw[if_pos a,if_pos a];exact{_,rfl}
 ·rw[if_neg a,if_neg a];exact{_,rfl}
def wg:Ch X (.type "int") (λa H Q=>(∃i,a=[.int i]/\Q (.int i) H)\/∃k,a=[.bl k]/\Q (.int (if k then 1 else 0)) H):=by
 intro b s Y H a us Q I r h;rcases h with⟨i,rfl,q⟩ | ⟨k,rfl,q⟩
 ·obtain⟨u,rfl,t,rfl⟩:=br r
  exact call_int_int {.int i,H,I,{_,rfl},q}
 ·obtain⟨u,rfl,b⟩:=br r
  cases b;exact call_int_bool {.int (if k then 1 else 0),H,I.tok _,{_,rfl},q}
def oB:Ch X (.builtin "divmod") (λa H Q=>∃i j,a=[.int i,.int j]/\F9 i j/\∀p,H p=none->Q (.ref p) (Ag H p (.tup [.int (i / j),.int (i % j)]))):=by
 intro b s Y H a us Q I r h;obtain⟨i,j,rfl,⟨b,c⟩,q⟩:=h;obtain⟨u,w',rfl,⟨t,rfl⟩,⟨b,rfl⟩⟩:=f7 r;refine divmod_int 'o' ?_ (.inl (PyProof.noPylong_small 'o'));rw[Int.fdiv_eq_ediv_of_nonneg i 'o',Int.fmod_eq_emod_of_nonneg i 'o'];have c:H s.heap.objs.size=none:=I.hok.fresh (Ap _);refine{.ref s.heap.objs.size,_,?_,rfl,q _ c};refine I.laid (λb o e=>AJ _ e) (Ap _) {by simp only[CD,F5];rw[sizeLine_eq];decide,[.int (i / j) s.toks,.int (i % j) (s.toks+1)],.cons {_,rfl} (.cons {_,rfl} .nil),?_};exact{{_,Be s.heap rfl,rfl,0,rfl},{_,Be _ rfl,rfl}}
structure HV(h:Heap)(x dx C:Addr)(mA:Str->Option Value):Prop where
 obj:h.get? x=some (PySem.W.instObj C dx)
 ns:h.Ns1 dx mA
 ne:dx≠x
open H in
def oC{h:Heap}{dx:Addr}{mA:Str->Option Value}(n:h.Ns1 dx mA):∃b,h.get? dx=some b/\∀a,PySem.W.lookIn a b=some (mA a):=by
 obtain⟨o,es,e,c,b,d,_,f⟩:=n;refine{o,c,λa=>?_};have e:=f a;unfold nsFind findBy at e;rw[<-Array.find?_toList] at e;delta PySem.W.lookIn;rw[b];dsimp only;split
 ·rename_i y q
  rw[q] at e;exact congrArg some e
 ·rename_i q
  rw[q] at e;have a:es.toList.any (·.refKey)=false:=by
   rw[List.any_eq_false];intro y c;obtain⟨z,t,b⟩:=d y (Array.mem_toList_iff.mp c);simp[DictEntry.refKey,b]
  have c:¬es.toList.any (·.refKey)=true:=by rw[a];exact BP
  rw[if_neg c];exact congrArg some e
def HV.look(I:HV h x dx C mA):∃b,PySem.W.InstAt h x (PySem.W.instObj C dx) C (some b)/\∀a,PySem.W.lookIn a b=some (mA a):=
 let ⟨b,d,c⟩:=oC I.ns
 {b,⟨I.obj,rfl,rfl,d⟩,c}
section
variable{prog:Program}{w:World}{A:Around}{E:Value->Shared->Prop}{s:Shared}{K:FG}{x dx C f:Addr}{mA:Str->Option Value}{name:Str}{v:Value}
end
theorem DP.some_of(r:DP (some v) o):∃u,o=some u/\Am v u:=by
 cases o with
 | none=>exact(show False from r).elim
 | some u=>exact⟨u,rfl,r⟩
def oD(b:Bo P w H h)(e:H a=some (.ins C dx fs)):∃mA,HV h a dx C mA/\(∀f,DP (fs.lookup f) (mA f))/\PySem.Within mA (fs.map (·.1))/\fs.length<=1000/\H dx=some (.own a):=by
 obtain⟨d,z,c,f,mA,n,r,q⟩:=(show Bv P w H h a (.ins C dx fs) from b a _ e);exact{mA,⟨f,n,c⟩,r,q,z,d}
structure Cls(K:FG)(C:Addr):Prop where
 pg:PySem.W.plainGet K C Str.empty=true
 hd:PySem.W.hasDictIn K C=true
 po:PySem.W.plainOver K C=true
 sa:PySem.W.findIn K (.ref C) "__setattr__" = some (some (.builtin "object.__setattr__"))
def Cls.get{K:FG}{C:Addr}(c:Cls K C)(f:Str):PySem.W.plainGet K C f=true:=c.pg
section
variable{f:Str}{X:Cx}{A5:List 'p'}{Y:St}{H:Hp}{s:Shared}{A:Around}{E Q:Value->Shared->Prop}{c:Value}{b:Bool}
inductive D2(K:FG)(H:Hp):V->Value->Prop where
 | non:D2 K H .non (.type "NoneType")
 | bl (x:Bool):D2 K H (.bl x) (.type "bool")
 | int (i:Int):D2 K H (.int i) (.type "int")
 | str (x:Str):D2 K H (.str x) (.type "str")
 | flt (x:UInt64):D2 K H (.flt x) (.type "float")
 | lst {a:Addr} {xs:List V} (e:H a=some (.lst xs)):D2 K H (.ref a) (.type "list")
 | frz {a:Addr} {o:Obj} {xs:List V} (e:H a=some (.frz o (.lst xs))):D2 K H (.ref a) (.type "list")
 | tup {a:Addr} {xs:List V} (e:H a=some (.tup xs)):D2 K H (.ref a) (.type "tuple")
 | dK {a:Addr} {kvs:List (Aw×V)} (e:H a=some (.dK kvs)):D2 K H (.ref a) (.type "dict")
 | dT {a:Addr} {kvs:List (List Al×V)} (e:H a=some (.dT kvs)):D2 K H (.ref a) (.type "dict")
 | ins {a C dx:Addr} {fs:List (Str×V)} (e:H a=some (.ins C dx fs)) (cl:Cls K C) (ha:PySem.W.findIn K (.ref C) "__class__" = some (some (.builtin "object.__class__")))
  (hn:PySem.W.specialIn K (.builtin "object.__class__") "__get__" = some (some (.builtin "getset_descriptor.__get__"))) (htk:PySem.W.takesIn K (.builtin "object.__class__")=some true)
  (hm:PySem.W.mroIn K C (.type "object")=some true):D2 K H (.ref a) (.ref C)
def cp(I:Ab X A5 Y H s)(d:Am x u)(a:D2 X.K H x t)(e:PySem.W.kitOne X.K t c=some b)(h:∀g,Q (.bool b) { s with toks:=g }) :
 wpAny 'e' A (call (.builtin "isinstance") [u,c]) Q E s:=by
 cases a with
 | non=>cases (show u=Value.none from d);exact PySem.W.kia_one PySem.W.kitx_none I.kIn True.intro e (λz=>nomatch z) h
 | bl y=>cases (show u=Value.bool y from d);exact PySem.W.kia_one PySem.W.kitx_bool I.kIn True.intro e (λz=>nomatch z) h
 | int i=>obtain⟨t,q⟩:=(show ∃t,u=Value.int i t from d);cases q;exact PySem.W.kia_one PySem.W.kitx_int I.kIn True.intro e (λz=>nomatch z) h
 | str y=>obtain⟨t,q⟩:=(show ∃t,u=Value.str y t from d);cases q;exact PySem.W.kia_one PySem.W.kitx_str I.kIn True.intro e (λz=>nomatch z) h
 | flt y=>obtain⟨t,q⟩:=(show ∃t,u=Value.float y t from d);cases q;exact PySem.W.kia_one PySem.W.kitx_float I.kIn True.intro e (λz=>nomatch z) h
 | @lst a l g=>
   cases (show u=Value.ref a from d);obtain⟨_,_,n,_,i⟩:=(show Bv X.prog X.w H s.heap a (.lst l) from I.hok a _ g);exact PySem.W.kia_one PySem.W.kitx_list I.kIn {_,i,rfl} e (λz=>nomatch z) h
 | @frz a j l g=>
   cases (show u=Value.ref a from d);obtain⟨_,_,_,n,_,i⟩:=(show Bv X.prog X.w H s.heap a (.frz j (.lst l)) from I.hok a _ g);exact PySem.W.kia_one PySem.W.kitx_list I.kIn {_,i,rfl} e (λz=>nomatch z) h
 | @tup a l g=>
   cases (show u=Value.ref a from d);obtain⟨_,_,_,p,_⟩:=(show Bv X.prog X.w H s.heap a (.tup l) from I.hok a _ g);obtain⟨o,i,m,_⟩:=p;exact PySem.W.kia_one PySem.W.kitx_tuple I.kIn ⟨o,i,m⟩ e (λz=>nomatch z) h
 | @dK a j g=>
   cases (show u=Value.ref a from d);obtain⟨_,_,n,_,p⟩:=(show Bv X.prog X.w H s.heap a (.dK j) from I.hok a _ g);obtain⟨o,es,n,i,m,_⟩:=p;exact PySem.W.kia_one PySem.W.kitx_dict I.kIn ⟨o,i,m.1⟩ e (λz=>nomatch z) h
 | @dT a j g=>
   cases (show u=Value.ref a from d);obtain⟨_,_,l,_,o,es,n,i,m,_⟩:=(show Bv X.prog X.w H s.heap a (.dT j) from I.hok a _ g);exact PySem.W.kia_one PySem.W.kitx_dict I.kIn ⟨o,i,m.1⟩ e (λz=>nomatch z) h
 | @ins a C dx o g j l n i m=>
   cases (show u=Value.ref a from d);obtain⟨mA,O,_⟩:=oD I.hok g;obtain⟨a,J,_⟩:=O.look;exact PySem.W.kia_one (PySem.W.kitx_own (j.get _) j.hd l n i m) I.kIn J e (λz=>nomatch z) h
end
structure AT(k:Nat)(A:Around):Prop where
 hd:A.handled=none
 dp:A.depth+3*k+5<recursionLimit
 un:A.units+16*k+200<cLine
 gd:A.guards=some []
def AT.mono{j k:Nat}(r:AT k A)(h:j<=k):AT j A:={r.hd,by have:=r.dp;omega,by have:=r.un;omega,r.gd}
def AT.deeper{k:Nat}(r:AT (k+1) A)(env:Env):AT k (A.deeper env):=
 {r.hd,by have:=r.dp;show A.depth+1+3*k+5<_;omega,by have:=r.un;show A.units+3+16*k+200<_;omega,r.gd}
def AT.depth{k:Nat}(r:AT k A):A.depth<recursionLimit:=by have:=r.dp;omega
def AT.units{k:Nat}(r:AT k A):A.units+64<cLine:=by have:=r.un;omega
def HW:TA:=λ_ H Q=>Q [] H
def FM(ta:TE)(tr:TA):TA:=λY H Q=>ta Y H λx H1=>tr Y H1 λxs H2=>Q (x::xs) H2
def bt:PA X [] HW:=λ_ _ _ _ H Q I h=>Calls.spliced_nil {[],H,I,.nil,h}
def aX(c:PE X e te)(d:PA X es t)(b:autoParam 's' uR):PA X (e::es) (FM te t):=by
 intro pos a s Y H Q I h;rw[b];show wpAny _ _ (spliced ((false,eval e X.env)::backTo pos (starEach es X.env))) _ _ s;refine Calls.spliced_cons (ai (c a s Y H _ I h) λu c hI89=>?_);obtain⟨x,H1,I1,e,b⟩:=hI89;exact ai (d pos a c Y H1 _ I1 b) λus d ⟨c,H2,I2,a,b⟩=>{x::c,H2,I2,.cons e a,b}
def Kt(t:TA):TE:=λY H Q=>t Y H λxs H1=>xs.length<=sizeLine/\∀p,H1 p=none->Q (.ref p) (Ag H1 p (.tup xs))
def Ku(t:TA):TE:=λY H Q=>t Y H λxs H1=>xs.length<=sizeLine/\∀p,H1 p=none->Q (.ref p) (Ag H1 p (.lst xs))
def iX{x1}(h:PA X es t):PE X (.Tuple es x1 pos) (Kt t):=by
 intro a s Y H Q I b;refine wpAny_Tuple_spliced (ai (h pos a s Y H _ I b) λus a ⟨c,H1,I1,r,z,q⟩=>{by rw[<-r.length];exact z,?_});have d:H1 a.heap.objs.size=none:=I1.hok.fresh (Ap _);refine{.ref a.heap.objs.size,Ag H1 a.heap.objs.size (.tup c),I1.laid (t':=a.toks) (λb u e=>AJ _ e) (Ap _) ?_,rfl,q _ d};exact{z,us,r,{_,Be _ rfl,rfl,_,rfl},{_,Be _ rfl,rfl}}
def f8(h:PA X es t):PE X (.List es pos) (Ku t):=by
 intro a s Y H Q I b;refine wpAny_List_spliced (ai (h pos a s Y H _ I b) λus a ⟨c,H1,I1,r,z,q⟩=>{by rw[<-r.length];exact z,?_});have d:H1 a.heap.objs.size=none:=I1.hok.fresh (Ap _);refine{.ref a.heap.objs.size,Ag H1 a.heap.objs.size (.lst c),I1.laid (t':=a.toks) (λb u e=>AJ _ e) (Ap _) ?_,rfl,q _ d};exact{z,us,0,r,Be _ rfl}
abbrev Sp:=List V->Hp->VK->XK->Prop
abbrev EH:=List Env->Hp->Shared->XK->Value->Shared->Prop
structure Hg(P:Program)(w:World)(K:FG)(mg:Str->Option Value)(base:Heap)(A:Around)(outer:List Env)(s:Shared)(H:Hp):Prop where
 frames:A.frames=some outer
 mod:Mod K mg base
 bs:∀b o,base.get? b=some o->s.heap.get? b=some o/\H b=none
 bsz:base.objs.size<=s.heap.objs.size
 funs:s.heap.FunFrames base outer
 frf:∀b∈EG outer,H b=none
 hok:Bo P w H s.heap
 bare:AllBare s.gens
instance CE(outer:List Env)(P:Program)(w:World)(H:Hp)(s:Shared)(Q:VK)(u:Value)(s':Shared):Prop:=
 ∃v H',s'.os=s.os/\AllBare s'.gens/\Un (EG outer) [] H H' s.heap s'.heap/\Bo P w H' s'.heap/\Am v u/\Q v H'
instance CR(CX:EH)(outer:List Env)(P:Program)(w:World)(H:Hp)(s:Shared)(Q:VK)(E:XK)(r:Result)(s':Shared):Prop:=
 match r with
 | .ok (.ret u)=>CE outer P w H s Q u s'
 | .ok _=>False
 | .error e=>CX outer H s E e s'
structure Cs(P:Program)(w:World)(K:FG)(mg:Str->Option Value)(base:Heap)(CX:EH)(k:Nat)(f:Addr)(fd:FuncData)(ps:List Str)(sp:Sp):Prop where
 len:∀vs H Q E,sp vs H Q E->vs.length=ps.length
 run:∀(A:Around) (outer:List Env) (s:Shared) (H:Hp) (args:Args) (us:List Value) (vs:List V) (Q:VK) (E:XK),AT k A->Hg P w K mg base A outer s H->BindsTo s fd args (ps.zip us)->Aq vs us->sp vs H Q E->
  codeAny (model P w) A (.call (.ref f) args) (CR CX outer P w H s Q E) s
def Cs.mono{P:Program}{w:World}{K:FG}{b:Str->Option Value}{a:Heap}{c:EH}{j k:Nat}{f:Addr}{g:FuncData}{e:List Str}{d:Sp}(F:Cs P w K b a c j f g e d)(h:j<=k) :
 Cs P w K b a c k f g e d:={F.len,λA a s H b us d Q E c=>F.run A a s H b us d Q E (c.mono h)}
def Ab.env0(I:Ab X a Y H s):Hg X.prog X.w X.K X.mg X.base X.A X.stack s H:=
 {I.ok.frames,I.ok.mod,I.bs,Az I.ok.bsz I.sz,I.stack,I.stkFree,I.hok,I.bare}
def Ab.after(I:Ab X e Y H s)(h:CE X.stack X.prog X.w H s Q u s'):EP X e Y Q u s':=by
 obtain⟨v,j,f,a,i,c,r,q⟩:=h;obtain⟨l,g,d,t,b⟩:=s';obtain rfl:b=s.os:=f;exact{v,j,I.call (h':=l) (g':=g) (d':=d) (t':=t) (ch:=[]) i c a (λb z=>absurd z 'd'),r,q}
def Hh(sp:Sp)(dvs:List V)(E:XK)(t:TA):TE:=λY H Q=>t Y H λvs H1=>sp (vs++dvs) H1 Q E
def Ga(K:FG)(fd:FuncData)(ps:List Str)(ds:List Value):Prop:=
 ∀(s:Shared) (us:List Value),K.In s.heap->(us++ds).length=ps.length->BindsTo s fd {us,[]} (ps.zip (us++ds))
def Ga.all{K:FG}{a:FuncData}{ps:List Str}(h:∀us:List Value,us.length=ps.length->bindArgs a {us,[]}=pure (ps.zip us)):Ga K a ps []:=λs us _ a=>by
 rw[Cp] at a ⊢;exact .of_eq (h us a)
def HX(CX:EH)(X:Cx)(E:XK):Prop:=∀(A5:List 'p') (Y:St) (H:Hp) (s:Shared) (e:Value) (s':Shared),Ab X A5 Y H s->CX X.stack H s E e s'->X.xe e s'
section
variable{X:Cx}{CX:EH}{k:Nat}{f C:Addr}{fd:FuncData}{ps:List Str}{sp:Sp}{dvs:List V}{ds:List Value}{E:XK}{x m:Str}{p pos apos:Pos}{e o:Expr}{es:List Expr}{ta:TE}{t:TA}{ks:List Str}{kpos:Pos}{kws:List Keyword}{te:TE}{tk:TA}{nm:Option Str}
open H in
def oE{c:List 'p'}{Y:St}{H:Hp}{s:Shared}{Q:VK}{us:List Value}{b:List V}(F:Cs X.prog X.w X.K X.mg X.base CX k f fd ps sp)(a:AT k X.A)(l:Ga X.K fd ps ds)(j:Aq dvs ds)(i:HX CX X E)(I:Ab X c Y H s)(r:Aq b us)(h:sp (b++dvs) H Q E):wpAny 'e' X.A (call (.ref f) us) (EP X c Y Q) X.xe s:=by
 have d:Aq (b++dvs) (us++ds):=r.append j;have g:(us++ds).length=ps.length:=by rw[<-d.length];exact F.len _ _ _ _ h
 refine wpAny_call (codeAny_mono (F.run X.A X.stack s H {us,[]} (us++ds) (b++dvs) Q E a I.env0 (l s us I.kIn g) d h) λr s' a=>?_);cases r with
 | error e=>exact i c Y H s e s' I a
 | ok d=>
   cases d with
   | ret u=>exact I.after a
   | next=>exact False.elim a
   | brk=>exact False.elim a
   | cont=>exact False.elim a
def eR(F:Cs X.prog X.w X.K X.mg X.base CX k f fd ps sp)(l:AT k X.A)(g:Gl X x)(q:X.mg x=some (.ref f))(c:keepIn X.K (.ref f)=true)(v:Ga X.K fd ps ds)(n:Aq dvs ds)(j:HX CX X E)(i:PA X (e::es) t)(b:autoParam 'u' uD)(u:autoParam 's' uR)(a:autoParam 'i' uR) :
 PE X (.Call (.Name x p) (e::es) [] pos) (Hh sp dvs E t):=by
 intro d s Y H Q I h;refine wpAny_Call_Name_kw (iQ I g q ?_ b);refine PySem.W.callWith_K (h₀:=X.base) I.ok.mod.kin c (ai (i pos d s Y H _ I h) λus b ⟨c,H1,I1,r,q⟩=>{I1.kIn,?_}) u a;exact oE F l v n j I1 r q
end
structure C5(N P:List Str)(sc:Scope):Prop where
 kind:sc.kind=.function
 co:sc.isCoroutine=false
 gen:sc.isGenerator=false
 nd:N.Nodup
 pre:N.take P.length=P
 par:∀x∈P,sc.names.lookup x=some .local\/sc.names.lookup x=some .cell
 nofree:∀y∈sc.names,y.2≠.free
theorem iY{kindOf:Str->Option NameKind}{x:Str}:∀{a:List (Str×Value)} {m:Str->Option Value},(∀v,(x,v)∉a)->bindL kindOf a m x=m x
 | [],_,_=>rfl
 | (n,v)::r,m,h=>by
   unfold bindL;rw[iY λw a=>h w (Ed _ a)];split
   ·have:x≠n:=by rintro rfl;exact h v EY
    simp[this]
   ·rfl
theorem iZ{kindOf:Str->Option NameKind}{x:Str}:∀{a:List (Str×Value)} {m:Str->Option Value},(∀v,(x,v)∉a)->bindC kindOf a m x=m x
 | [],_,_=>rfl
 | (n,v)::r,m,h=>by
   unfold bindC;rw[iZ λw a=>h w (Ed _ a)];split
   ·rfl
   ·have:x≠n:=by rintro rfl;exact h v EY
    simp[this]
theorem i0{kindOf:Str->Option NameKind}{x:Str}{v:Value}:∀{P:List Str} {a:List Value} {i:Nat} {m:Str->Option Value},P.Nodup->P[i]?=some x->a[i]?=some v->kindOf x=some .local->
 bindL kindOf (P.zip a) m x=some v
 | [],_,_,_,_,h,_,_=>by simp at h
 | _::_,[],_,_,_,_,h,_=>by simp at h
 | p::P,w::a,0,m,e,b,c,d=>by
   simp at b c;subst b;subst c;show bindL kindOf ((p,w)::P.zip a) m p=_;unfold bindL;rw[iY λv f=>(Fp.mp e).1 (List.of_mem_zip f).1,if_pos d];simp
 | p::P,w::a,i+1,m,e,b,c,d=>by
   show bindL kindOf ((p,w)::P.zip a) m x=_;unfold bindL;exact i0 (i:=i) (Fp.mp e).2 (by simpa using b) (by simpa using c) d
theorem i4{kindOf:Str->Option NameKind}{x:Str}{v:Value}:∀{P:List Str} {a:List Value} {i:Nat} {m:Str->Option Value},P.Nodup->P[i]?=some x->a[i]?=some v->kindOf x≠some .local->
 bindC kindOf (P.zip a) m x=some v
 | [],_,_,_,_,h,_,_=>by simp at h
 | _::_,[],_,_,_,_,h,_=>by simp at h
 | p::P,w::a,0,m,e,b,c,d=>by
   simp at b c;subst b;subst c;show bindC kindOf ((p,w)::P.zip a) m p=_;unfold bindC;rw[iZ λv f=>(Fp.mp e).1 (List.of_mem_zip f).1,if_neg d];simp
 | p::P,w::a,i+1,m,e,b,c,d=>by
   show bindC kindOf ((p,w)::P.zip a) m x=_;unfold bindC;exact i4 (i:=i) (Fp.mp e).2 (by simpa using b) (by simpa using c) d
def B8(N:List Str)(vs:List V):St:=vs.map some++List.replicate (N.length-vs.length) none
def CI(CX:EH)(P:Program)(w:World)(K:FG)(mg:Str->Option Value)(base:Heap)(N:List Str)(qual:Str)(scope:Scope)(f:Addr)(cd:Value)(A:Around)(outer:List Env)(s:Shared)(H:Hp)(E:XK):Cx where
 prog:=P
 w:=w
 K:=K
 mg:=mg
 base:=base
 A:=A.deeper (envOfC qual scope s.heap.objs.size f cd)
 N:=N
 s₀:=s
 H₀:=H
 env:=envOfC qual scope s.heap.objs.size f cd
 outer:=outer
 stack:=envOfC qual scope s.heap.objs.size f cd::outer
 ex:=[]
 calm:=true
 fn:=λ_=>true
 pn:=[]
 xe:=λe s'=>wpAny (model P w) (A.deeper (envOfC qual scope s.heap.objs.size f cd)) (leaving (envOfC qual scope s.heap.objs.size f cd) e) (λ_ s''=>CX outer H s E e s'') (λe' s''=>CX outer H s E e' s'') s'
def i5{a:Scope}{n:Nat}{x:Str}(h:a.names.lookup x=some .cell):∃c,(cellsFrom n a.names []).lookup x=some c:=by
 have q:=PySem.W.cellsFrom_some a.names n [] (.inl h);exact Option.isSome_iff_exists.mp q
def oF{p:EH}{P:Program}{w:World}{K:FG}{i:Str->Option Value}{d:Heap}{N l:List Str}{c:Str}{scope:Scope}{f:Addr}{h:Value}{A:Around}{a:List Env}{s b:Shared}{H:Hp}{E:XK}{us:List Value}{j:List V}(S:C5 N l scope)(q:A.handled=none)(g:Hg P w K i d A a s H)(e:j.length=l.length)(r:Aq j us)(x:InCallC s s.heap.objs.size (bindL (envOfC c scope s.heap.objs.size f h).kindOf (l.zip us) λ_=>none) (cellsFrom (s.heap.objs.size+1) scope.names []) (bindC (envOfC c scope s.heap.objs.size f h).kindOf (l.zip us) λ_=>none) b) :
 Ab (CI p P w K i d N c scope f h A a s H E) [] (B8 N j) H b:=by
 have e:l.length<=N.length:=by have:=congrArg List.length S.pre;rw[CO] at this;omega
 obtain⟨m,b,rfl,o⟩:=x.done;have e:∀b:Addr,b∉(CI p P w K i d N c scope f h A a s H E).ex:=λb z=>absurd (show b∈([]:List Addr) from z) 'd'
 refine{{g.mod,S.kind,rfl,rfl,Ap _,λy z c m d=>?_,λy a=>?_,λy c _ h=>?_,λ_=>q,Around.frames_deeper g.frames,.inr ⟨rfl,rfl⟩,λb z=>absurd z (e b),g.bs,g.bsz,λb _ _=>e b,λb z=>absurd z (e b),g.funs,g.frf},rfl,g.bare,Un.kept o,{_,x.toInCall.ns,λi y v m d b=>?_},λy c h=>{_,x.cell y c h},g.hok.fresh (Ap _),λy c h=>?_,λp b=>absurd (show p∈([]:List 'p') from b) 'd',g.hok.kept o,?_}
 ·exact name_of_addr x.apart (PySem.mem_of_lookup m) (PySem.mem_of_lookup d)
 ·have a:scope.names.lookup y=some .cell\/scope.names.lookup y=some .free:=a
  rcases a with a | a
  ·exact i5 a
  ·exact absurd rfl (S.nofree _ (PySem.mem_of_lookup a))
 ·exact BB (x.above y c (PySem.mem_of_lookup h))
 ·have a:i<j.length:=by
   unfold B8 at d;by_cases a:i<j.length
   ·exact a
   ·rw[G7 (by simpa using a)] at d
    rw[Hc] at d;split at d<;>cases d
  have o:j[i]?=some v:=by
   unfold B8 at d;rw[EW (by simpa using a),AK] at d;cases e:j[i]? with
   | none=>rw[e] at d;cases d
   | some a=>rw[e] at d;cases d;rfl
  obtain⟨u,f,p⟩:=r.get o;have b:l[i]?=some y:=by
   rw[<-S.pre,List.getElem?_take_of_lt 'o'];exact m
  have a:l.Nodup:=by rw[<-S.pre];exact S.nd.sublist (List.take_sublist _ _)
  refine{u,p,?_};rcases S.par y (Bq b) with k | k
  ·exact .inl {k,i0 a b f k}
  ·obtain⟨c,e⟩:=i5 (n:=s.heap.objs.size+1) k
   refine .inr {.inl k,c,e,?_};have q:=x.cell y c e;rw[i4 a b f (by show scope.names.lookup y≠_;rw[k];decide)] at q;exact q
 ·exact g.hok.fresh (BB (x.above y c (PySem.mem_of_lookup h)))
 ·unfold B8
  show _=N.length;rw[A7,Ai,Gw];omega
open H in
def oG{B:EH}{P:Program}{w:World}{K:FG}{z:Str->Option Value}{g:Heap}{k:Nat}{f:Addr}{j c:Str}{b:Arguments}{e:List Stmt}{scope:Scope}{p kV m y d C i:Value}{r l:Option Addr}{a:Array (Option Value)}{N q:List Str}{o:Sp}(M:K.lookup f=some {i,l,.func (fnOf j c b e scope p kV m y r d C),a})(x:codeIn K d c=true)(S:C5 N q scope)(n:∀h H Q E,o h H Q E->h.length=q.length)(l:∀(A:Around) (a:List Env) (s:Shared) (H:Hp) (h:List V) (Q:VK) (E:XK),AT k (A.deeper (envOfC c scope s.heap.objs.size f d))->o h H Q E->
  ∃t,CP (CI B P w K z g N c scope f d A a s H E) e t/\t { nx:=λ_ i=>Q .non i,rt:=Q } (B8 N h) H) :
 Cs P w K z g B (k+1) f (fnOf j c b e scope p kV m y r d C) q o:=by
 refine{n,λA a s H b us h Q E C p J r m=>?_};have O:=n _ _ _ _ m;have I:K.In s.heap:=p.mod.kin.keeps λb o e=>(p.bs b o e).1
 have G:s.heap.NoLimit:=p.mod.nolimit.keeps λb o e=>(p.bs b o e).1
 have j:∀y∈q.zip us,scope.names.lookup y.1=some .local\/(scope.names.lookup y.1=some .cell/\((cellsFrom (s.heap.objs.size+1) scope.names []).lookup y.1).isSome=true):=λhI2 b=>by
  obtain⟨n,v⟩:=hI2;rcases S.par n (List.of_mem_zip b).1 with q | q
  ·exact .inl q
  ·exact .inr {q,PySem.W.cellsFrom_some _ _ _ (.inl q)}
 refine codeAny_call_function C.depth (I _ _ M) rfl S.co S.gen rfl (PySem.W.codeRec_of I x) (J _ _ _ _ ?_);refine wpAny_newFunctionEnv_cells S.kind j λenv n b x=>?_
 subst n;refine{G.keeps x.toInCall.keep,codeAny_func ?_};obtain⟨t,n,j⟩:=l A a s H h Q E (C.deeper _) m;have I:Ab (CI B P w K z g N c scope f d A a s H E) [] (B8 N h) H b:=oF S C.hd p O r x;refine Db (n [] b (B8 N h) H _ I j) (λl s' b=>?_) λe s' b=>b
 have fin:∀{e:St} {i:Hp} {v:V} {u:Value},Ab (CI B P w K z g N c scope f d A a s H E) [] e i s'->Am v u->Q v i->CE a P w H s Q u s':=
  λ{e i v u} J a q=>⟨v,i,J.os,J.bare,J.base,J.hok,a,q⟩
 cases l with
 | ret u=>
   obtain⟨v,e,i,J,a,q⟩:=b;exact fin J a q
 | next=>
   obtain⟨e,i,J,q⟩:=b;exact fin (v:=V.non) (u:=Value.none) J rfl q
 | brk=>
   obtain⟨_,_,_,q⟩:=b;exact False.elim q
 | cont=>
   obtain⟨_,_,_,q⟩:=b;exact False.elim q
section
variable{x:Str}{id T:String}
instance tCB(r:List V->Hp->VK->Prop)(t:TA):TE:=λY H Q=>t Y H λvs H1=>r vs H1 Q
def dC(m:Ch X (.builtin id) r)(d:Gl X x)(i:X.mg x=none)(g:bootBuiltins x=some (.builtin id))(f:PA X (e::es) t)(l:autoParam (x≠"__name__") uD)(b:autoParam 'u' uD)(j:autoParam 's' uR)(a:autoParam 'i' uR):PE X (.Call (.Name x p) (e::es) [] pos) (tCB r t):=by
 intro c s Y H Q I h;refine wpAny_Call_Name_kw (cA I d i g ?_ l b);exact PyProof.Rows.callWith_builtin1 (ai (f pos c s Y H _ I h) λus d ⟨e,H1,I1,f,b⟩=>m c d Y H1 e us Q I1 f b) j a
def i6(m:Ch X (.type T) r)(d:Gl X x)(i:X.mg x=none)(g:bootBuiltins x=some (.type T))(f:PA X (e::es) t)(l:autoParam (x≠"__name__") uD)(b:autoParam 'u' uD)(j:autoParam 's' uR)(a:autoParam 'i' uR):PE X (.Call (.Name x p) (e::es) [] pos) (tCB r t):=by
 intro c s Y H Q I h;refine wpAny_Call_Name_kw (cA I d i g ?_ l b);exact PyProof.Rows.callWith_type1 (ai (f pos c s Y H _ I h) λus d ⟨e,H1,I1,f,b⟩=>m c d Y H1 e us Q I1 f b) j a
end
end L2
namespace HT
open PySem PyProof.Rows
def C7:List Int->List Int->Bool
 | [],[]=>false
 | [],_::_=>true
 | _::_,[]=>false
 | x::xs,y::ys=>if x=y then C7 xs ys else decide (x<y)
def oH(x y:Int)(b a:List Int):C7 (x::b) (y::a)=if x=y then C7 b a else decide (x<y):=rfl
def oI:C7 [] []=false:=rfl
def oJ(y:Int)(a:List Int):C7 [] (y::a)=true:=rfl
def oK(x:Int)(a:List Int):C7 (x::a) []=false:=rfl
def oM(A:Around)(s:Shared)(a:Int)(t:Tok)(c:Int)(u:Tok):∃e,SeqAt.EqAt A s (.int a t) (.int c u) e/\(e=true↔a=c):=
 {(a == c),SeqAt.EqAt.int_int a t c u,'d'}
def oN(A:Around)(s:Shared)(a:Int)(t:Tok)(c:Int)(u:Tok)(prog:Program)(w:World)(E:Value->Shared->Prop)(Q:Value->Shared->Prop)(h:Q (.bool (decide (a<c))) s) :
 wpAny 'r' A (richCompare .Lt (.int a t) (.int c u)) Q E s:=
 (PyProof.Rows.lt_int h:wpAny 'r' A (compareOp .Lt (.int a t) (.int c u)) Q E s)
section
open PySem.SeqAt
open PySem.AutoSeq1 (wpAny_loadPart')
open PySem.MeetsSeq PySem.MeetsSeq2 PySem.MeetsSeq3
def oO(l b:Addr)(i f:Array Value)(n e:Nat)(g a:Option Addr)(d c:Array (Option Value))(ns B:List Int)(M:IntsAre i.toList ns)(J:IntsAre f.toList B) :
 Meets (Builtin.«tuple.__lt__» {[.ref l,.ref b],[]})
  (λ_ R s=>s.heap.get? l=some { cls:=.type "tuple",dict:=g,data:=.seq i n,slots:=d }/\s.heap.get? b=some { cls:=.type "tuple",dict:=a,data:=.seq f e,slots:=c }/\
   R (.ok (.ret (.bool (C7 ns B)))) s):=
 .of_wp λprog w A R s h=>by
  obtain⟨z,g,d,G,E⟩:=s;obtain⟨c,e,h⟩:=h;have f2:=AutoSeq1.sub_tuple_tuple;have a:i.size=ns.length:=by rw[<-M.length];simp
  have a:f.size=B.length:=by rw[<-J.length];simp
  wp_walk using wpAny_loadPart' c,wpAny_loadPart' e,wpAny_forIn_list _ (λa b s'=>b.1=none/\s'=⟨z,g,d,G,E⟩/\∃(I C:List Value) (j l:List Int),a=I.zip C/\
   IntsAre I j/\IntsAre C l/\j.length+f.size=l.length+i.size/\R (.ok (.ret (.bool (C7 j l)))) ⟨z,g,d,G,E⟩) _
  case turn=>
   rintro ⟨y,x⟩ a b s' ⟨r,rfl,I,C,j,l,m,s,n,b,p⟩;cases s with
   | nil=>rw[List.zip_nil_left] at m;cases m
   | cons a t q=>
     cases n with
     | nil=>rw[List.zip_nil_right] at m;cases m
     | cons c u v=>
       rw[List.zip_cons_cons] at m;injection m with hyx hrest
       injection hyx with hy hx
       subst hy hx;rw[oH] at p;simp only[CD] at b;obtain⟨e,x,o⟩:=oM A.in1 ⟨z,g,d,G,E⟩ a t c u;refine Ac (x prog w _ _ ?_);cases e with
       | true=>
         rw[if_pos (o.mp rfl)] at p
         wp_walk
         exact{rfl,rfl,_,_,_,_,hrest,q,v,'o',p}
       | false=>
         rw[if_neg (λq=>absurd (o.mpr q) BP)] at p;have e:=oN A.in1 ⟨z,g,d,G,E⟩ a t c u prog w
         wp_walk using e
         exact{_,rfl,by simpa using p}
  case fin=>
   rintro ⟨d,e⟩ s' ⟨r,rfl,I,C,j,l,m,s,n,b,p⟩;simp only at r;subst r;have d:C7 j l=decide (i.size<f.size):=by
    cases s with
    | nil=>
      cases n with
      | nil=>
        simp only[F5] at b;rw[oI];exact(ax 'o').symm
      | cons c u e=>
        simp only[F5,CD] at b;rw[oJ];exact(aA 'o').symm
    | cons a t d=>
      cases n with
      | nil=>
        simp only[F5,CD] at b;rw[oK];exact(ax 'o').symm
      | cons c u e=>
        rw[List.zip_cons_cons] at m;cases m
   rw[d] at p
   wp_walk
   exact{_,rfl,by simpa [Builtin.Tuple.tupleCompareSizes] using p}
  case h=>
   exact{rfl,rfl,i.toList,f.toList,ns,B,rfl,M,J,'o',h}
end
def oP{ns a:List Int}(d:IsTup s.heap l items)(u:IsTup s.heap b items2)(y:IntsAre items.toList ns)(q:IntsAre items2.toList a)(v:A.units<cLine)(h:Q (.bool (C7 ns a)) s):wpAny 'r' A (compareOp .Lt (.ref l) (.ref b)) Q E s:=by
 obtain⟨⟨e,r,c,p⟩,j,m,n,i⟩:=id d;obtain⟨⟨e,g,data2,f⟩,c,d,o,e⟩:=id u;simp only at m i d e;subst m i d e;exact richCompare_meets_room (op:=.Lt) {_,j,rfl} {_,c,rfl} PySem.F.slot_tuple_lt PySem.F.entry_tuple_lt (PySem.F.args_tuple_lt_2 _ _) (oO l b items items2 n o r g p f ns a y q)
  {j,c,show Value.bool (C7 ns a)≠Value.notImplemented/\Q (.bool (C7 ns a)) s from{(λx=>nomatch x),h}} v
def cat_tup(g:IsTup s.heap t c.toArray)(v:IsTup s.heap b ws.toArray)(o:c≠[])(u:ws=[]->Q (.ref t) s)(x:ws≠[]->Q (.ref s.heap.objs.size) { s with heap:=s.heap.push { cls:=.type "tuple",data:=.seq (c++ws).toArray } })(j:c.length+ws.length<=sizeLine):wpAny 'r' A (binaryOp .Add (.ref t) (.ref b)) Q E s:=by
 obtain⟨⟨cls,q,data,l⟩,i,r,n,m⟩:=id g;obtain⟨⟨e,d,data2,f⟩,a,g,p,h⟩:=id v;simp only at r m g h;subst r m g h;have e:c.toArray++ws.toArray=(c++ws).toArray:=by simp
 by_cases g:ws=[]
 ·exact concat_meets {_,i,rfl} {_,a,rfl} noFill_tuple_add seq_tuple_add PySem.F.slot_tuple_add PySem.F.entry_tuple_add (PySem.F.args_tuple_add_2 _ _)
   (tuple_addW1 t b c.toArray ws.toArray n p q d l f (by simpa using o) (by simp[g])) {i,a,u g}
 ·refine concat_meets {_,i,rfl} {_,a,rfl} noFill_tuple_add seq_tuple_add PySem.F.slot_tuple_add PySem.F.entry_tuple_add (PySem.F.args_tuple_add_2 _ _)
   (tuple_addW2 t b c.toArray ws.toArray n p q d l f (by simpa using o) (by simpa using g) (by rw[AX,AX];exact j)) {i,a,?_}
  rw[e];exact x g
instance sIx(n d:Nat):Option Int->Nat
 | none=>d
 | some v=>if v<0 then (v+(n:Int)).toNat else min v.toNat n
def sIx_none(n d:Nat):sIx n d none=d:=rfl
def sIx_nat(n d k:Nat):sIx n d (some (k:Int))=min k n:=by
 show (if (k:Int)<0 then ((k:Int)+(n:Int)).toNat else min (k:Int).toNat n)=min k n;rw[if_neg 'o',Dc]
def oQ(n d:Nat)(a:d<=n)(o:Option Int):sIx n d o<=n:=by
 cases o with
 | none=>exact a
 | some v=>
   show (if v<0 then (v+(n:Int)).toNat else min v.toNat n)<=n;by_cases a:v<0
   ·rw[if_pos a];omega
   ·rw[if_neg a];exact Nat.min_le_right _ _
def i7(v:Int)(n d:Nat):(if v<0 then max (v+(n:Int)) 0 else min v (n:Int))=((sIx n d (some v):Nat):Int):=by
 show (if v<0 then max (v+(n:Int)) 0 else min v (n:Int))=(((if v<0 then (v+(n:Int)).toNat else min v.toNat n):Nat):Int);by_cases a:v<0
 ·simp only[if_pos a];omega
 ·simp only[if_neg a];omega
def oR(a b:Option Int)(n:Nat):Builtin.Slice.sliceAdjust a b 1 (n:Int)=(((sIx n 0 a:Nat):Int),((sIx n n b:Nat):Int)):=by
 have c:¬((1:Int)<0):=by omega
 delta Builtin.Slice.sliceAdjust;simp only[c,if_false];refine Prod.ext ?_ ?_
 ·cases a with
  | none=>rfl
  | some v=>exact i7 v n 0
 ·cases b with
  | none=>rfl
  | some v=>exact i7 v n n
def oS(i j:Nat):Builtin.Slice.slicePlaces (i:Int) (j:Int) 1=j-i:=by
 delta Builtin.Slice.slicePlaces;have a:(1:Int)>0:=by omega
 simp only[a,if_true,Int.ediv_one];split<;>omega
def i8(p:IsPart v o)(h:Q o s):wpAny 'r' A (Builtin.Slice.slicePartIndex v) Q E s:=by
 cases p with
 | none=>exact slicePart_none h
 | int i t=>exact slicePart_int h
def oT{b:Addr}{e f:Value}{a c:Option Int}{n:Nat}{Q:Int×Int×Nat->Shared->Prop}(j:s.heap.IsSliceOf b e f .none)(l:IsPart e a)(i:IsPart f c)(h:Q (((sIx n 0 a:Nat):Int),1,sIx n n c-sIx n 0 a) s):wpAny 'r' A (Builtin.Slice.sliceApplied (.ref b) (pure (n:Int))) Q E s:=by
 obtain⟨m,d,g,b⟩:=id j;delta Builtin.Slice.sliceApplied Builtin.Slice.sliceFields;refine Ac (Ac (Ca d b (x:=e) rfl (Ac (Ca d b (x:=f) rfl (Ac (Ca d b (x:=.none) rfl (Ao ?_)))))));refine Ac (slicePart_none ?_);show wpAny _ _ (if ((1:Int) == 0)=true then _ else _) _ _ s;rw[if_neg 'z'];refine Ac (i8 l (Ac (i8 i (Ac (Ao ?_)))));show wpAny _ _ (match Builtin.Slice.sliceAdjust a c 1 (n:Int) with | (a,c)=>pure (a,(1:Int),Builtin.Slice.slicePlaces a c 1)) _ _ s;rw[oR a c n];show wpAny _ _ (pure (((sIx n 0 a:Nat):Int),(1:Int),Builtin.Slice.slicePlaces ((sIx n 0 a:Nat):Int) ((sIx n n c:Nat):Int) 1)) _ _ s;rw[oS];exact Ao h
open H in
def oU(a:Array Value)(i k:Nat):((List.range k).filterMap λ(m:Nat)=>a[((i:Int)+(m:Int)*1).toNat]?).toArray=((a.toList.drop i).take k).toArray:=by
 have e:(λ(m:Nat)=>a[((i:Int)+(m:Int)*1).toNat]?)=λm=>a[i+m]?:=by
  funext m;have:((i:Int)+(m:Int)*1).toNat=i+m:=by omega
  rw[this]
 rw[e];have:=pick_run a i k;rw[List.filterMap_map] at this;have b:((λx=>a[x]?) ∘ λx=>i+x)=λm=>a[i+m]?:=rfl
 rw[b] at this;rw[this]
def getItem_tuple_cut{t g:Addr}{a:Array Value}{b f:Value}{c d:Option Int}{Q:Value->Shared->Prop}(e:IsTup s.heap t a)(l:s.heap.IsSliceOf g b f .none)(r:IsPart b c)(q:IsPart f d)(p:¬(sIx a.size 0 c=0/\sIx a.size a.size d=a.size))(h:Q (.ref s.heap.objs.size) { s with heap:=s.heap.push { cls:=.type "tuple",data:=.seq ((a.toList.drop (sIx a.size 0 c)).take (sIx a.size a.size d-sIx a.size 0 c)).toArray } })(b:a.size<=sizeLine):wpAny 'r' A (getItem (.ref t) (.ref g)) Q E s:=by
 have b:sizeOk (.seq ((a.toList.drop (sIx a.size 0 c)).take (sIx a.size a.size d-sIx a.size 0 c)).toArray):=by
  show ((a.toList.drop (sIx a.size 0 c)).take (sIx a.size a.size d-sIx a.size 0 c)).toArray.size<=sizeLine;rw[AX,CO,List.length_drop,Ee];omega
 have f:sIx a.size a.size d<=a.size:=oQ _ _ (Ap _) d;obtain⟨n,i,f,o⟩:=id l;have j:s.TypeIs (.ref g) "slice":=⟨n,i,f⟩;delta getItem;try with_reducible refine wpAny_holding ?_
 first | refine Ac (Ao ?_) | skip
 refine Ac (wpAny_sequenceKey e.typeIs 'z' ?_);refine Ac (wpAny_callSpecial?_slot (name:=Str.ofString "__getitem__") e.typeIs PyProof.Rows.slot_tuple_getitem (DX PyProof.Rows.slot_tuple_getitem e.typeIs entry_tuple_getitem ?_ (args_tuple_getitem _ _)));show wpAny _ _ (Builtin.Tuple.tupleItemsOf (.ref t) >>= _) _ _ s;refine Ac (tupleItemsOf_ e ?_);refine Ac (wpAny_typeOf j ?_);rw[if_pos 'z'];refine Ac (oT l r q ?_);have e:¬((((sIx a.size 0 c:Nat):Int) == 0&&(1:Int) == 1&&(sIx a.size a.size d-sIx a.size 0 c) == a.size)=true):=by
  intro q;rw[Bool.and_eq_true,Bool.and_eq_true] at q;have f:((sIx a.size 0 c:Nat):Int)=0:=eq_of_beq q.1.1;have f:sIx a.size a.size d-sIx a.size 0 c=a.size:=eq_of_beq q.2;exact p {'o','o'}
 show wpAny _ _ (if (((sIx a.size 0 c:Nat):Int) == 0&&(1:Int) == 1&&(sIx a.size a.size d-sIx a.size 0 c) == a.size)=true then _ else _) _ _ s;rw[if_neg e,oU];first
  | exact Ac (m:=Builtin.Tuple.tupleExact _) (wpAny_newObj_type (Ao {_,rfl,Ao h}) b)
  | exact Ac (m:=Builtin.Tuple.tupleExact _) (wpAny_newObj_type (Ac (Ao (Ao {_,rfl,Ao h}))) b)
  | exact Ac (Ac (m:=Builtin.Tuple.tupleExact _) (wpAny_newObj_type (Ao (Ao {_,rfl,Ao h})) b))
  | exact Ac (Ac (m:=Builtin.Tuple.tupleExact _) (wpAny_newObj_type (Ao {_,rfl,Ao h}) b))
end HT
namespace L2
abbrev TO:=St->Hp->(Option Int->Hp->Prop)->Prop
instance PO(X:Cx)(e:Option Expr)(t:TO):Prop:=
 ∀(A5:List 'p') (s:Shared) (Y:St) (H:Hp) (Q:Option Int->Hp->Prop),Ab X A5 Y H s->t Y H Q->
  wpAny 'e' X.A (evalPart e X.env) (λu s'=>∃o H',Ab X A5 Y H' s'/\IsPart u o/\Q o H') X.xe s
def Kv:TO:=λ_ H Q=>Q none H
def Kw(t:TE):TO:=λY H Q=>t Y H λx H1=>∃i,x=.int i/\Q (some i) H1
def oV{ns:List Int}:∀{us:List Value},Aq 'k' us->IntsAre us ns:=by
 induction ns with
 | nil=>intro us r;rw[List.map_nil] at r;cases r;exact .nil
 | cons n ns a=>
   intro us r;rw[BI] at r;cases r with
   | cons c b=>
     obtain⟨t,e⟩:=c;subst e;exact .cons n t (a b)
section
variable{X:Cx}{e:Expr}{te:TE}{lo hi:Option Expr}{tl th:TO}{pos p2:Pos}
def i9:PO X none Kv:=by
 intro a s Y H Q I h;rw[evalPart_none];exact Ao {none,H,I,.none,h}
def ja(h:PE X e te):PO X (some e) (Kw te):=by
 intro a s Y H Q I b;rw[evalPart_some];refine ai (h a s Y H _ I b) λu a hI90=>?_
 obtain⟨x,H1,I1,b,a⟩:=hI90;obtain⟨i,rfl,q⟩:=a;obtain⟨t,rfl⟩:=b;exact{some i,H1,I1,.int i t,q}
instance SlR(X:Cx)(r:V->Option Int->Option Int->Hp->VK->Prop):Prop:=
 ∀(A5:List 'p') (s:Shared) (Y:St) (H:Hp) (x:V) (v vl vu:Value) (lo hi:Option Int) (sl:Addr) (Q:VK),Ab X A5 Y H s->Am x v->s.heap.IsSliceOf sl vl vu .none->IsPart vl lo->IsPart vu hi->r x lo hi H Q->
  ∃T id,typeLookup (.type T) "__getitem__" = pure (some (.builtin id))/\s.TypeIs v T/\wpAny 'e' X.A (getItem v (.ref sl)) (EP X A5 Y Q) X.xe s
def SlR.or(h:SlR X r)(l:SlR X r'):SlR X (λx lo hi H Q=>r x lo hi H Q\/r' x lo hi H Q):=by
 intro c s Y H x v d g lo hi b Q I a f j i q;rcases q with q | q
 ·exact h c s Y H x v d g lo hi b Q I a f j i q
 ·exact l c s Y H x v d g lo hi b Q I a f j i q
instance tSl(r:V->Option Int->Option Int->Hp->VK->Prop)(te:TE)(tl th:TO):TE:=λY H Q=>te Y H λx H1=>tl Y H1 λl H2=>th Y H2 λu H3=>r x l u H3 Q
def jb(m:SlR X r)(a:PE X e te)(b:PO X lo tl)(f:PO X hi th):PE X (.Subscript e (.Slice lo hi none p2) pos) (tSl r te tl th):=by
 intro c s Y H Q I h;refine Subscript_ (ai (a c s Y H _ I h) λv g hI91=>?_);obtain⟨x,H1,I1,o,a⟩:=hI91;refine wpAny_Slice (ai (b c g Y H1 _ I1 a) λd b ⟨l,H2,I2,j,g⟩=>ai (f c b Y H2 _ I2 g) λf a hI92=>?_);obtain⟨u,H3,I3,i,n⟩:=hI92;rw[evalPart_none];refine Ao ?_;have I4:Ab X c Y H3 { a with heap:=a.heap.push { cls:=.type "slice",data:=.fields #[d,f,.none] } }:=I3.kept (t':=a.toks) λb g q=>AJ _ q
 obtain⟨T,p,b,g,h⟩:=m c { a with heap:=a.heap.push { cls:=.type "slice",data:=.fields #[d,f,.none] } } Y H3 x v d f l u a.heap.objs.size Q I4 o (Heap.IsSliceOf.new ..) j i n;show wpAny 'e' X.A (subscriptTail e (.Slice lo hi none p2) v (.ref a.heap.objs.size)) (EP X c Y Q) X.xe { a with heap:=a.heap.push { cls:=.type "slice",data:=.fields #[d,f,.none] } };exact tail_any (ops:=[.ref a.heap.objs.size,v]) g b h (by with_unfolding_all rfl)
def Eo(xs:List V)(lo hi:Option Int):List V:=(xs.drop (HT.sIx xs.length 0 lo)).take (HT.sIx xs.length xs.length hi-HT.sIx xs.length 0 lo)
def jc(a:List V)(lo hi:Option Int):(Eo a lo hi).length<=a.length:=by
 delta Eo;rw[CO,List.length_drop];omega
def Kx(K:FG):V->Option Int->Option Int->Hp->VK->Prop:=λx lo hi H Q=>∃a xs,x=.ref a/\AS K H a xs/\
 ¬(HT.sIx xs.length 0 lo=0/\HT.sIx xs.length xs.length hi=xs.length)/\∀p,H p=none->Q (.ref p) (Ag H p (.tup (Eo xs lo hi)))
def oW:SlR X (Kx X.K):=by
 intro a s Y H x v b c lo hi a Q I g i n m h;obtain⟨a,c,rfl,j,l,q⟩:=h;cases g;obtain⟨b,r,d,f⟩:=I.tuple j;have a:b.toArray.size=c.length:=by rw[AX];exact r.length.symm
 refine{"tuple",_,PyProof.Rows.slot_tuple_getitem.lookup,d.typeIs,?_};refine HT.getItem_tuple_cut d i n m (by rw[a];exact l) ?_ (by rw[a];exact f);rw[a];refine{.ref s.heap.objs.size,_,I.laid (t':=s.toks) (o:=.tup (Eo c lo hi)) (λb a q=>AJ _ q) (Ap _) ?_,rfl,q _ (I.hok.fresh (Ap _))};exact{Az (jc c lo hi) f,_,(r.drop (HT.sIx c.length 0 lo)).take (HT.sIx c.length c.length hi-HT.sIx c.length 0 lo),IsTup.new _ _,{_,Be _ rfl,rfl}}
def Hi(K:FG):R2:=λx y H Q=>∃a b xs ys,x=.ref a/\y=.ref b/\AS K H a xs/\AS K H b ys/\xs≠[]/\xs.length+ys.length<=sizeLine/\
 (ys=[]->Q (.ref a) H)/\(ys≠[]->∀p,H p=none->Q (.ref p) (Ag H p (.tup (xs++ys))))
theorem Aq.nil_iff(r:Aq a us):us=[]↔a=[]:=by
 cases r with
 | nil=>simp
 | cons _ _=>simp
def oX:A8 X (binaryOp .Add) (Hi X.K):=by
 intro a s Y H x y v u Q I c g h;obtain⟨a,b,r,j,rfl,rfl,l,q,m,f,i,n⟩:=h;cases c;cases g;obtain⟨p,d,h,_⟩:=I.tuple l;obtain⟨g,c,p2,_⟩:=I.tuple q;refine HT.cat_tup h p2 (λz=>m (d.nil_iff.mp z)) (λz=>{.ref a,H,I,rfl,i (c.nil_iff.mp z)}) (λz=>?_) (by rw[<-d.length,<-c.length];exact f);refine{.ref s.heap.objs.size,_,I.laid (t':=s.toks) (o:=.tup (r++j)) (λb a q=>AJ _ q) (Ap _) ?_,rfl,n (λw=>z (c.nil_iff.mpr w)) _ (I.hok.fresh (Ap _))};exact{by rw[A7];exact f,_,d.append c,IsTup.new _ _,{_,Be _ rfl,rfl}}
end
def CQ(n:Nat)(i:Int):Option Nat:=if 0<=i then (if i<n then some i.toNat else none) else if -(n:Int)<=i then some (i+n).toNat else none
def BG{α:Type}(xs:List α)(i:Int):Option α:=(CQ xs.length i).bind λj=>xs[j]?
def jd{n:Nat}{i:Int}{j:Nat}(h:CQ n i=some j):seqIndex? i n=some j/\j<n/\-(n:Int)<=i/\i<n:=by
 delta CQ at h;by_cases b:0<=i
 ·rw[if_pos b] at h
  by_cases a:i<n
  ·rw[if_pos a] at h
   have e:i.toNat=j:=Option.some.inj h;exact{by rw[seqIndex_of b a,e],'o','o',a}
  ·rw[if_neg a] at h;cases h
 ·rw[if_neg b] at h
  by_cases a:-(n:Int)<=i
  ·rw[if_pos a] at h
   have e:(i+n).toNat=j:=Option.some.inj h;exact{by rw[seqIndex_neg 'o' a,e],'o',a,'o'}
  ·rw[if_neg a] at h;cases h
def f9{α:Type}{a:List α}{i:Int}{v:α}(h:BG a i=some v):∃j,seqIndex? i a.length=some j/\a[j]?=some v/\j<a.length/\-(a.length:Int)<=i/\i<a.length:=by
 delta BG at h;cases e:CQ a.length i with
 | none=>rw[e] at h;cases h
 | some j=>
   rw[e] at h;obtain⟨b,d,f,c⟩:=jd e;exact⟨j,b,h,d,f,c⟩
def ge{α:Type}{a:List α}{j:Nat}{v:α}(h:a[j]?=some v):BG a (j:Int)=some v:=by
 have b:j<a.length:=(AQ.mp h).1;have e:CQ a.length (j:Int)=some j:=by
  delta CQ;rw[if_pos 'o',if_pos 'o'];simp
 delta BG;rw[e];exact h
def oY{α:Type}(a:List α)(v:α):BG (a++[v]) (-1)=some v:=by
 have b:(a++[v]).length=a.length+1:=by simp
 have e:CQ (a++[v]).length (-1)=some a.length:=by
  delta CQ;rw[b,if_neg 'z',if_pos 'o'];congr 1;omega
 delta BG;rw[e];show (a++[v])[a.length]?=some v;simp
def GD(b:Expr):Prop:=∀o i,subscripted b false o i=operate [o,i] (getItem o i)
instance IxR(X:Cx)(r:R2):Prop:=
 ∀(value slice:Expr) (A5:List 'p') (s:Shared) (Y:St) (H:Hp) (x y:V) (v u:Value) (Q:VK),Ab X A5 Y H s->Am x v->Am y u->r x y H Q->
  subscripted slice false v u=operate [v,u] (getItem v u)->wpAny 'e' X.A (subscriptTail value slice v u) (EP X A5 Y Q) X.xe s
instance MtR(X:Cx)(id:String)(r:V->List V->Hp->VK->Prop):Prop:=
 ∀(A5:List 'p') (s:Shared) (Y:St) (H:Hp) (x:V) (xs:List V) (v:Value) (us:List Value) (Q:VK),Ab X A5 Y H s->Am x v->Aq xs us->r x xs H Q->
  wpAny 'e' X.A (call (.builtin id) (v::us)) (EP X A5 Y Q) X.xe s
section
variable{X:Cx}{a b:Expr}{ta tb:TE}{pos:Pos}
def IxR.or(h:IxR X r)(j:IxR X r'):IxR X (λx y H Q=>r x y H Q\/r' x y H Q):=by
 intro d c f s Y H x y v u Q I e i q g;rcases q with q | q
 ·exact h d c f s Y H x y v u Q I e i q g
 ·exact j d c f s Y H x y v u Q I e i q g
def gf(g:IxR X r)(c:PE X a ta)(i:PE X b tb)(d:GD b):PE X (.Subscript a b pos) (tOp r ta tb):=by
 intro e s Y H Q I h;exact Subscript_ (f4 c i I h λv u f x y H2 I2 c h q=>g a b e f Y H2 x y v u Q I2 c h q (d _ _))
def Jr(K:FG):R2:=λx y H Q=>∃p xs i v,x=.ref p/\y=.int i/\AY K H p xs/\BG xs i=some v/\Q v H
def Js(K:FG):R2:=λx y H Q=>∃p xs i v,x=.ref p/\y=.int i/\AS K H p xs/\BG xs i=some v/\Q v H
def Jt:R2:=λx y H Q=>∃z i c,x=.str z/\y=.int i/\z.length<=sizeLine/\BG z.cps.toList i=some c/\Q (.str ⟨#[c]⟩) H
def je:IxR X (Jr X.K):=by
 intro d c l s Y H x y v u Q I c g h m;obtain⟨p,e,i,z,rfl,rfl,d,n,q⟩:=h;cases c;obtain⟨t,rfl⟩:=g;obtain⟨f,r,e,h⟩:=I.list d;obtain⟨j,c,h,g,p,o⟩:=f9 n;obtain⟨w,g,d⟩:=r.get h;have n:=r.length;have u:=dz;have fin:EP X l Y Q w s:=⟨z,H,I,d,q⟩;by_cases h:0<=i
 ·have d:i.toNat=j:=by
   rw[seqIndex_of h o] at c;exact Option.some.inj c
  exact item_listR e.isList h 'o' (by rw[d];simpa using g) fin m
 ·have d:(i+(f.toArray.size:Int)).toNat=j:=by
   rw[seqIndex_neg 'o' p] at c;rw[AX,<-n];exact Option.some.inj c
  exact subscriptTail_builtinR (x:=w) e.isList.typeIs slot_list_getitem.lookup
   (wpAny_getItem_list_neg (Q:=λr s'=>r=w/\EP X l Y Q r s') e.isList 'o' (by rw[AX]<;>omega) 'o' (by rw[d];simpa using g) ⟨rfl,fin⟩) m
def jf:IxR X (Js X.K):=by
 intro d c e s Y H x y v u Q I c f h l;obtain⟨p,d,i,z,rfl,rfl,g,m,q⟩:=h;cases c;obtain⟨t,rfl⟩:=f;obtain⟨h,r,d,c⟩:=I.tuple g;obtain⟨j,f,i,c,o,n⟩:=f9 m;obtain⟨w,h,c⟩:=r.get i;have g:=r.length;have m:=dz;have fin:EP X e Y Q w s:=⟨z,H,I,c,q⟩;exact subscriptTail_builtinR (x:=w) d.typeIs slot_tuple_getitem.lookup
  (getItem_tuple (j:=j) (Q:=λr s'=>r=w/\EP X e Y Q r s') d 'o' 'o' (by rw[AX,<-g];exact f) (by simpa using h) ⟨rfl,fin⟩) l
def oZ:IxR X Jt:=by
 intro e d f s Y H x y v u Q I d e h f;obtain⟨z,i,c,rfl,rfl,g,l,q⟩:=h;obtain⟨t,rfl⟩:=d;obtain⟨g,rfl⟩:=e;obtain⟨j,d,m,n,h,g⟩:=f9 l;have e:z.cps.toList.length=z.length:=by simp[Str.length]
 rw[e] at d h g;have j:=dz;exact tail_any (typeIs_str s z t) slot_str_getitem.lookup (getItem_str (c:=c) (by
  have g:decide (i < -(2 ^ 63:Int))=false:=ax 'o';have e:decide (i>=2 ^ 63)=false:=ax 'o';rw[g,e,Bool.or_false]) (by rw[d];simpa using m) {.str ⟨#[c]⟩,H,I.tok _,{_,rfl},q}) f
instance rIx(K:FG):R2:=λx y H Q=>Jr K x y H Q\/Js K x y H Q\/Jt x y H Q
def jg:IxR X (rIx X.K):=je.or (jf.or oZ)
def o0(c:List Value)(n j:Nat)(u:Value):Obj.mapSeq (·.setIfInBounds j u) { cls:=.type "list",data:=.seq c.toArray n }={ cls:=.type "list",data:=.seq (c.set j u).toArray n }:=by
 simp[Obj.mapSeq]
def Ab.lst{f:List 'p'}{Y:St}{H:Hp}{s:Shared}{p:Addr}{d:List V}(I:Ab X f Y H s)(h:H p=some (.lst d)) :
 ∃(c:List Value) (n:Nat),Aq d c/\s.heap.get? p=some { cls:=.type "list",data:=.seq c.toArray n }/\d.length<=sizeLine:=by
 obtain⟨z,c,n,r,e⟩:=I.hok p _ h;exact⟨c,n,r,e,z⟩
def Ab.lstUpd{j:List 'p'}{Y:St}{H:Hp}{s:Shared}{p:Addr}{o g:List V}{d c:List Value}{n i:Nat}{f:Obj->Obj}(I:Ab X j Y H s)(h:H p=some (.lst o))(m:s.heap.get? p=some { cls:=.type "list",data:=.seq d.toArray n })(l:f { cls:=.type "list",data:=.seq d.toArray n }={ cls:=.type "list",data:=.seq c.toArray i })(r:Aq g c)(n:g.length<=sizeLine)(t:Nat) :
 Ab X j Y (Ag H p (.lst g)) { s with heap:=s.heap.update p f,toks:=t }:=by
 have e:(s.heap.update p f).get? p=some { cls:=.type "list",data:=.seq c.toArray i }:=by
  rw[Heap.get?_update_self f m (by rw[l]<;>rfl),l]
 refine I.write (x:=p) (e:=p) (by rw[h];trivial) (.inl rfl) (λb u f q=>(Heap.get?_update_other _ _ (Ne.symm f)).trans q) {_,e} ?_;exact⟨n,c,i,r,e⟩
def Ju:V->V->V->Hp->(Hp->Prop)->Prop:=λo i v H Q=>∃p xs k j,o=.ref p/\i=.int k/\H p=some (.lst xs)/\CQ xs.length k=some j/\Q (Ag H p (.lst (xs.set j v)))
def o3:Jn X Ju:=by
 intro x s Y H o i v c f u Q I d e y h;obtain⟨p,z,k,j,rfl,rfl,f,l,q⟩:=h;cases d;obtain⟨t,rfl⟩:=e;obtain⟨c,n,r,g,o⟩:=I.lst f;obtain⟨d,h,i,m⟩:=jd l;have e:=r.length;have h:=dz;have l:Ab X x Y (Ag H p (.lst (z.set j v))) { s with heap:=s.heap.update p (Obj.mapSeq (·.setIfInBounds j u)) }:=
  I.lstUpd f g (o0 c n j u) (r.set y j) (by rw[EF];exact o) s.toks
 by_cases h:0<=k
 ·have f:k.toNat=j:=by
   rw[seqIndex_of h m] at d;exact Option.some.inj d
  exact PySem.W.ki_setAt g h 'o' (by rw[AX,<-e];exact m) (by rw[f];exact{_,l,q})
 ·have f:(k+(c.toArray.size:Int)).toNat=j:=by
   rw[seqIndex_neg 'o' i] at d;rw[AX,<-e];exact Option.some.inj d
  exact PySem.W.ki_setBack g 'o' (by rw[AX,<-e];exact i) 'o' (by rw[f];exact{_,l,q})
def o5(c d:Option Int)(n:Nat):(sliceBounds c d none n).1=((HT.sIx n 0 c:Nat):Int)/\(sliceBounds c d none n).2.1=((HT.sIx n n d:Nat):Int)/\(sliceBounds c d none n).2.2=1:=by
 refine{?_,?_,rfl}
 ·cases c with
  | none=>simp[sliceBounds,HT.sIx]
  | some i=>
    simp only[sliceBounds,HT.sIx,Option.getD_none,show (1:Int)>0 by decide,if_true];by_cases h:i<0
    ·simp only[h,if_true]<;>omega
    ·simp only[h,if_false]<;>omega
 ·cases d with
  | none=>simp[sliceBounds,HT.sIx]
  | some i=>
    simp only[sliceBounds,HT.sIx,Option.getD_none,show (1:Int)>0 by decide,if_true];by_cases h:i<0
    ·simp only[h,if_true]<;>omega
    ·simp only[h,if_false]<;>omega
def o6(c:List Value)(d e:Option Int):slicePick c.toArray d e none=((c.drop (HT.sIx c.length 0 d)).take (HT.sIx c.length c.length e-HT.sIx c.length 0 d)).toArray:=by
 obtain⟨g,f,h⟩:=o5 d e c.toArray.size;delta slicePick;rw[g,f,h];simp only[sliceRange_one,pick_run,AX]<;>rfl
def Ky(K:FG):V->Option Int->Option Int->Hp->VK->Prop:=λx lo hi H Q=>∃a xs,x=.ref a/\AY K H a xs/\∀p,H p=none->Q (.ref p) (Ag H p (.lst (Eo xs lo hi)))
def jh:SlR X (Ky X.K):=by
 intro c s Y H x v g h e f c Q I d i n l h;obtain⟨a,c,rfl,j,q⟩:=h;cases d;obtain⟨p,r,g,m⟩:=I.list j;have d:=r.length;refine{"list",_,slot_list_getitem.lookup,g.isList.typeIs,?_};refine wpAny_getItem_list_slice g.isList i n l .none 'd' ?_ (by rw[AX]<;>omega);rw[o6,<-d];refine{.ref s.heap.objs.size,_,I.laid (t':=s.toks) (o:=.lst (Eo c e f)) (λb d q=>AJ _ q) (Ap _) ?_,rfl,q _ (I.hok.fresh (Ap _))};exact{Az (jc c e f) m,_,0,(r.drop (HT.sIx c.length 0 e)).take (HT.sIx c.length c.length f-HT.sIx c.length 0 e),Be _ rfl}
def o7:Ch X (.builtin "len") (λi H Q=>∃p d,i=[.ref p]/\(AY X.K H p d\/AS X.K H p d)/\Q (.int d.length) H):=by
 intro c s Y H i us Q I r h;obtain⟨p,d,rfl,e,q⟩:=h;obtain⟨u,rfl,c⟩:=br r;cases c;have f:=dz;rcases e with e | e
 ·obtain⟨g,r',f,h⟩:=I.list e
  have c:=r'.length;exact Calls.call_len_list f.isList (by simp only[AX]<;>omega) {.int d.length,H,I.tok _,{s.toks+1,by rw[AX,c]},q}
 ·obtain⟨g,r',f,h⟩:=I.tuple e
  have c:=r'.length;exact len_tuple f (by simp only[AX]<;>omega) {.int d.length,H,I.tok _,{s.toks+1,by rw[AX,c]},q}
def o8:Ch X (.type "list") (λv H Q=>∃p g,v=[.ref p]/\(AY X.K H p g\/AS X.K H p g)/\∀l,H l=none->Q (.ref l) (Ag H l (.lst g))):=by
 intro e s Y H v us Q I r h;obtain⟨p,g,rfl,j,q⟩:=h;obtain⟨u,rfl,d⟩:=br r;cases d;have fin:∀(c:List Value),Aq g c->g.length<=sizeLine->∀(d:Heap) (f:Nat),(∀b o',s.heap.get? b=some o'->d.get? b=some o')->
  d.get? s.heap.objs.size=some { cls:=.type "list",dict:=none,data:=.seq c.toArray f,slots:=#[] }->EP X e Y Q (.ref s.heap.objs.size) { s with heap:=d }:=λc r' i d f kp e=>
  {.ref s.heap.objs.size,_,I.laid (t':=s.toks) kp (Ap _) (show Bv X.prog X.w _ d _ (.lst g) from⟨i,c,f,r',e⟩),rfl,q _ (I.hok.fresh (Ap _))}
 rcases j with j | j
 ·obtain⟨c,r',l,i⟩:=I.list j
  have h:=r'.length;obtain⟨o,q,r,n,m⟩:=l.isList;exact call_list_seq p (.inl rfl) q r m (λd f kp e=>fin c r' i d f kp e) (by simp only[AX]<;>omega)
 ·obtain⟨c,r',l,i⟩:=I.tuple j
  have h:=r'.length;obtain⟨o,q,r,n,m⟩:=l;exact call_list_seq p (.inr rfl) q r m (λd f kp e=>fin c r' i d f kp e) (by simp only[AX]<;>omega)
def wj:Ch X (.type "tuple") (λm H Q=>∃p d,m=[.ref p]/\((AY X.K H p d/\∀l,H l=none->Q (.ref l) (Ag H l (.tup d)))\/(AS X.K H p d/\Q (.ref p) H))):=by
 intro j s Y H m us Q I r h;obtain⟨p,d,rfl,h⟩:=h;obtain⟨u,rfl,c⟩:=br r;cases c;rcases h with⟨i,q⟩ | ⟨i,q⟩
 ·obtain⟨c,r',g,h⟩:=I.list i
  have e:=r'.length;refine call_tuple_list g.isList (λf kp=>?_) (by simp only[AX]<;>omega);have I1:Ab X j Y H { s with heap:=f }:=I.kept (t':=s.toks) kp;have I2:Ab X j Y (Ag H f.objs.size (.tup d)) { s with heap:=f.push { cls:=.type "tuple",data:=.seq c.toArray } }:=
   I1.laid (t':=s.toks) (λb o e=>AJ _ e) (Ap _) (show Bv X.prog X.w _ _ _ (.tup d) from{h,c,r',IsTup.new _ _,{_,Be _ rfl,rfl}})
  exact{.ref f.objs.size,_,I2,rfl,q _ (I1.hok.fresh (Ap _))}
 ·obtain⟨c,r',g,h⟩:=I.tuple i
  exact call_tuple_same g {.ref p,H,I,rfl,q}
instance tyV(K:FG)(T:String)(x:V)(H:Hp):Prop:=match x with
 | .str _=>T = "str"
 | .int _=>T = "int"
 | .ref p=>(T = "list"/\∃xs,AY K H p xs)\/(T = "tuple"/\∃o,K.lookup p=some o/\o.cls=.type "tuple"/\o.dict=none)\/
  (T = "dict"/\((∃kvs,H p=some (.dK kvs))\/∃kvs,H p=some (.dT kvs)))\/(T = "set"/\∃S n,H p=some (.set S n))
 | _=>False
def ji{T:String}(I:Ab X l Y H s)(r:Am x v)(f:tyV X.K T x H) :
 s.TypeIs v T/\∀a,v=.ref a->∃c,s.heap.get? a=some c/\c.dict=none:=by
 cases x with
 | str z=>
   obtain⟨t,rfl⟩:=r;cases (show T = "str" from f);exact{typeIs_str s z t,λ_ e=>nomatch e}
 | int i=>
   obtain⟨t,rfl⟩:=r;cases (show T = "int" from f);exact{typeIs_int s i t,λ_ e=>nomatch e}
 | ref p=>
   cases r;rcases f with⟨rfl,g,c⟩ | ⟨rfl,o,d,j,g⟩ | ⟨rfl,d⟩ | ⟨rfl,S,n,d⟩
   ·obtain⟨i,_,h,_⟩:=I.list c
    refine{h.isList.typeIs,λa e=>?_};cases e;obtain⟨o,n,e,c,g,_⟩:=h;exact⟨o,e,g⟩
   ·refine{{o,I.kIn p o d,j},λa e=>?_}
    cases e;exact{o,I.kIn _ o d,g}
   ·have z:∃o,s.heap.get? p=some o/\o.ExactDict:=by
     rcases d with⟨c,d⟩ | ⟨c,d⟩
     ·obtain⟨_,_,_,_,o,_,_,e,c,_⟩:=I.hok p _ d
      exact⟨o,e,c⟩
     ·obtain⟨_,_,_,_,o,_,_,e,c,_⟩:=I.hok p _ d
      exact⟨o,e,c⟩
    obtain⟨o,e,c⟩:=z;refine{⟨o,e,c.1⟩,λa g=>?_};cases g;exact⟨o,e,c.2.1⟩
   ·obtain⟨o,_,_,_,e,c,_⟩:=I.hok p _ d
    refine{⟨o,e,c.1⟩,λa g=>?_};cases g;exact⟨o,e,c.2.1⟩
 | _=>exact False.elim f
def Kz(K:FG)(T:String)(r:V->List V->Hp->VK->Prop)(to:TE):TE:=λY H Q=>to Y H λx H1=>tyV K T x H1/\r x [] H1 Q
instance tBM(K:FG)(T:String)(r:V->List V->Hp->VK->Prop)(to:TE)(t:TA):TE:=λY H Q=>to Y H λx H1=>tyV K T x H1/\t Y H1 λxs H2=>r x xs H2 Q
variable{name:Str}{T id:String}
def o9(n:PlainAttrs T)(e:Slot T name id)(f:typeOf (.builtin id)=pure (.type "method_descriptor"))(l:MtR X id r)(i:PE X o to)(c:autoParam (attributeBase o name X.env (eval o X.env)=eval o X.env) uR)(d:autoParam ((apos.endLine == cpos.line)=true) uR):PE X (.Call (.Attribute o name apos) [] [] cpos) (Kz X.K T r to):=by
 intro g s Y H Q I h;refine wpAny_Call_method0_late c d (ai (i g s Y H _ I h) λv j hI93=>?_);obtain⟨x,H1,I1,c,i,d⟩:=hI93;obtain⟨h,m⟩:=ji I1 c i;exact{T,id,n,e,f,h,m,Calls.callWith_builtin rfl (PySem.evalArgs_none (l g j Y H1 x [] v [] Q I1 c .nil d))}
def pa(q:PlainAttrs T)(i:Slot T name id)(j:typeOf (.builtin id)=pure (.type "method_descriptor"))(p:MtR X id r)(n:PE X o to)(m:PA X (e::es) t)(f:autoParam (attributeBase o name X.env (eval o X.env)=eval o X.env) uR)(g:autoParam (((backTo cpos (starEach (e::es) X.env)).all (λx=>!x.1)&&(backToKw cpos (keywordEach [] X.env)).all (λx=>x.1.isSome)
  && decide ((e::es).length+([]:List Keyword).length+(if ([]:List Keyword).isEmpty then 0 else 1)<30))=true) uR)(d:autoParam ((apos.endLine == cpos.line)=true) uR)(l:autoParam 's' uR)(c:autoParam ((backTo cpos (starEach es X.env)).any (·.1)=false) uR) :
 PE X (.Call (.Attribute o name apos) (e::es) [] cpos) (tBM X.K T r to t):=by
 intro e s Y H Q I h;refine wpAny_Call_method_late f g d rfl (ai (n e s Y H _ I h) λv n hI94=>?_);obtain⟨x,H1,I1,f,d,g⟩:=hI94;obtain⟨h,o⟩:=ji I1 f d;refine{T,id,q,i,j,h,o,?_};have d:=m cpos e n Y H1 _ I1 g;rw[l] at d ⊢;refine Calls.callWith_builtin (by show (false||(backTo cpos (starEach es X.env)).any (·.1))=false;rw[c]<;>rfl) (Calls.evalArgs_plain ?_);exact ai d λus g ⟨h,H2,I2,c,d⟩=>p e g Y H2 x h v us Q I2 f c d
end
instance MtM(X:Cx)(id:String)(r:V->List V->Hp->VK->Prop):Prop:=
 ∀(A5:List 'p') (s:Shared) (Y:St) (H:Hp) (x:V) (xs:List V) (v:Value) (us:List Value) (Q:VK),Ab X A5 Y H s->Am x v->Aq xs us->r x xs H Q->
  wpAny 'e' X.A (call (.builtin id) (v::us)) (EP X A5 Y Q) X.xe s
theorem Aq.unc{x:V}{a:List V}{us:List Value}(h:Aq (x::a) us):∃u r,us=u::r/\Am x u/\Aq a r:=by
 cases h with
 | cons r t=>exact{_,_,rfl,r,t}
def Aq.unn{us:List Value}(h:Aq [] us):us=[]:=by
 cases h;rfl
def Aq.one{x:V}{us:List Value}(h:Aq [x] us):∃u,us=[u]/\Am x u:=by
 obtain⟨u,r,e,a,b⟩:=h.unc;rw[b.unn] at e;exact⟨u,e,a⟩
theorem Aq.zero:∀{us:List Value},Aq [] us->us=[]
 | _,.nil=>rfl
theorem Aq.reverse{a:List V}{us:List Value}(h:Aq a us):Aq a.reverse us.reverse:=by
 induction h with
 | nil=>exact .nil
 | cons r t b=>rw[GA,GA];exact Aq.append b (.cons r .nil)
theorem Aq.rep(h:Aq a us):∀k:Nat,Aq (List.replicate k a).flatten (List.replicate k us).flatten
 | 0=>.nil
 | k+1=>by
   rw[Fg,Fg,FI,FI];exact Aq.append h (Aq.rep h k)
theorem jk(b:List Value):∀(k:Nat) (a:List Value),
 List.foldl (λc d=>c++d) a.toArray (List.replicate k b.toArray)=(a++(List.replicate k b).flatten).toArray
 | 0,a=>by simp
 | k+1,a=>by
   have e:a.toArray++b.toArray=(a++b).toArray:=by simp
   have c:(a++b)++(List.replicate k b).flatten=a++(List.replicate (k+1) b).flatten:=by
    rw[Fg,FI,BH]
   rw[<-c,<-jk b k (a++b),<-e,Fg,List.foldl_cons]
def Ab.lset{a its':List Value}{n:Nat}{f:Array Value->Array Value}{d:Nat}(I:Ab X g Y H s)(j:H l=some (.lst m))(e:s.heap.get? l=some { cls:=.type "list",data:=.seq a.toArray n })(i:f a.toArray=its'.toArray)(c:Aq b its')(h:b.length<=sizeLine) :
 Ab X g Y (Ag H l (.lst b)) { s with heap:=s.heap.update l (Obj.mapSeq f),toks:=d }:=by
 have q:=PySem.IsL.update e f;rw[i] at q;refine I.write (x:=l) (e:=l) (by rw[j];exact trivial) (.inl rfl) (λj u d i=>(Heap.get?_update_other s.heap (Obj.mapSeq f) (Ne.symm d)).trans i) {_,q} ?_;exact{h,its',_,c,q}
def Ab.lnew{t':Nat}(I:Ab X c Y H s)(a:Aq ys its)(b:ys.length<=sizeLine) :
 Ab X c Y (Ag H s.heap.objs.size (.lst ys)) { s with heap:=s.heap.push { cls:=.type "list",data:=.seq its.toArray },toks:=t' }:=
 I.laid (λ_ _ q=>AJ _ q) (Ap _) {b,its,0,a,Be _ rfl}
def Ab.fresh(I:Ab X a Y H s):H s.heap.objs.size=none:=I.hok.fresh (Ap _)
def Ab.lstM(I:Ab X d Y H s)(c:H l=some (.lst b)):b.length<=sizeLine/\∃(a:List Value) (n:Nat),Aq b a/\b.length=a.length/\s.heap.get? l=some { cls:=.type "list",data:=.seq a.toArray n }:=by
 obtain⟨z,a,n,r,e⟩:=I.hok l _ c;exact⟨z,a,n,r,r.length,e⟩
def gg{n:Nat}(h:n<=sizeLine):Builtin.List.listTooLong n=false:=by
 delta Builtin.List.listTooLong;exact ax 'o'
def Jv:V->List V->Hp->VK->Prop:=λx vs H Q=>∃l xs y,x=.ref l/\vs=[y]/\H l=some (.lst xs)/\xs.length<sizeLine/\Q .non (Ag H l (.lst (xs++[y])))
def pb:MtM X "list.append" Jv:=by
 intro a s Y H x b v us Q I a d h;obtain⟨l,e,y,rfl,rfl,b,c,q⟩:=h;cases a;obtain⟨u,rfl,c⟩:=d.one;obtain⟨z,a,n,r,f,e⟩:=I.lstM b;refine call_meets F.slot_list_append {_,e,rfl} F.entry_list_append (F.args_list_append_2 _ _) (PySem.list_append l a.toArray n u (by rw[AX];omega)) {e,?_};refine{.non,_,I.lset (its':=a++[u]) b e 'd' (r.append (.cons c .nil)) ?_,rfl,q};rw[A7,List.length_singleton];omega
def Jw:V->List V->Hp->VK->Prop:=λx vs H Q=>∃l b xs zs,x=.ref l/\vs=[.ref b]/\H l=some (.lst xs)/\H b=some (.lst zs)/\xs.length+zs.length<=sizeLine/\Q .non (Ag H l (.lst (xs++zs)))
def wk:MtM X "list.extend" Jw:=by
 intro a s Y H x b v us Q I a e h;obtain⟨l,b,f,d,rfl,rfl,g,m,c,q⟩:=h;cases a;obtain⟨u,rfl,d⟩:=e.one;cases d;obtain⟨z,c,n,r,a,e⟩:=I.lstM g;obtain⟨f,a,j,h,d,i⟩:=I.lstM m;have f:c.toArray.size+a.toArray.size<=sizeLine:=by rw[AX,AX];omega
 have d:¬(!c.toArray.isEmpty&&Builtin.List.listTooLong (c.toArray.size+a.toArray.size))=true:=by
  rw[gg f,Bool.and_false];exact BP
 refine call_meets F.slot_list_extend {_,e,rfl} F.entry_list_extend (F.args_list_extend_2 _ _)
  (AutoSeq1.list_extend_list_list_0 l c.toArray n b a.toArray j d (by rw[AX];omega) 'o') {e,i,?_}
 refine{.non,_,I.lset (its':=c++a) g e 'd' (r.append h) ?_,rfl,q};rw[A7];omega
def KA:V->List V->Hp->VK->Prop:=λx vs H Q=>∃l xs,x=.ref l/\vs=[]/\H l=some (.lst xs)/\Q .non (Ag H l (.lst xs.reverse))
def pd:MtM X "list.reverse" KA:=by
 intro a s Y H x b v us Q I a d h;obtain⟨l,b,rfl,rfl,c,q⟩:=h;cases a;have b:=d.zero;subst b;obtain⟨z,a,n,r,d,e⟩:=I.lstM c;refine call_meets F.slot_list_reverse {_,e,rfl} F.entry_list_reverse (F.args_list_reverse_1 _) (AutoSeq1.list_reverse_list_0 l a.toArray n (by rw[AX];omega)) {e,?_};refine{.non,_,I.lset (its':=a.reverse) c e 'd' r.reverse ?_,rfl,q};rw[List.length_reverse];omega
def Hj:R2:=λx y H Q=>∃l b xs zs,x=.ref l/\y=.ref b/\H l=some (.lst xs)/\H b=some (.lst zs)/\xs.length+zs.length<=sizeLine/\∀p,H p=none->Q (.ref p) (Ag H p (.lst (xs++zs)))
def ph:A8 X (binaryOp .Add) Hj:=by
 intro a s Y H x y v u Q I a c h;obtain⟨l,b,f,e,rfl,rfl,i,g,d,q⟩:=h;cases a;cases c;obtain⟨z,b,n,r,a,e⟩:=I.lstM i;obtain⟨h,a,j,c,d,f⟩:=I.lstM g;refine PySem.P.add_list e f ?_ (by rw[AX,AX];omega);have d:b.toArray++a.toArray=(b++a).toArray:=by simp
 rw[d];exact{.ref _,_,I.lnew (t':=s.toks) (r.append c) (by rw[A7];omega),rfl,q _ I.fresh}
def Hk:R2:=λx y H Q=>∃l k xs,x=.ref l/\y=.int k/\H l=some (.lst xs)/\-(2 ^ 63)<=k/\k<2 ^ 63/\xs.length*k.toNat<=sizeLine/\
 ∀p,H p=none->Q (.ref p) (Ag H p (.lst (List.replicate k.toNat xs).flatten))
def pi{α:Type}(a:List α)(k:Nat):(List.replicate k a).flatten.length=k*a.length:=by
 induction k with
 | zero=>simp
 | succ k b=>rw[Fg,FI,A7,b,Nat.succ_mul,Cq]
def pj:A8 X (binaryOp .Mult) Hk:=by
 intro a s Y H x y v u Q I a d h;obtain⟨l,k,b,rfl,rfl,g,f,j,i,q⟩:=h;cases a;obtain⟨t,rfl⟩:=d;obtain⟨z,b,n,r,c,e⟩:=I.lstM g;have a:b.toArray.size*k.toNat<=sizeLine:=by rw[AX,<-c];exact i
 have g:¬b.toArray.size*k.toNat>(2 ^ 63-1) / 8:=by
  have:(sizeLine:Nat)<=(2 ^ 63-1) / 8:=by decide
  omega
 have d:¬(!Builtin.List.listFitsIndex k)=true:=by
  rw[fitsIndex_both f j];exact BP
 have c:¬Builtin.List.listTooLong (b.toArray.size*k.toNat)=true:=by
  rw[gg a];exact BP
 have f:List.foldl (λa h=>a++h) #[] (List.replicate (if b.toArray.isEmpty=true then 0 else k.toNat) b.toArray)=(List.replicate k.toNat b).flatten.toArray:=by
  have j:∀m:Nat,List.foldl (λa h=>a++h) #[] (List.replicate m b.toArray)=(List.replicate m b).flatten.toArray:=λm=>by
   have:=jk b m [];rw[List.nil_append] at this;exact this
  rw[j];cases b with
  | nil=>simp
  | cons a r'=>rw[if_neg 'd']
 refine wpAny_binaryOp_repeat_ref (T:="list") (U:="int") 'z' {_,e,rfl} (λs'=>typeIs_int s' k t) noFill_list_mul F.fills_int_mul F.slot_int_rmul repeat_list F.slot_int_index.lookup
  (call_meets F.slot_int_rmul (typeIs_int s k t) F.entry_int_rmul (F.args_int_rmul_2 _ _) (int___rmul___int_list k t l b.toArray n)
   {e,rfl,{_,e,rfl},call_meets F.slot_list_mul {_,e,rfl} F.entry_list_mul (F.args_list_mul_2 _ _) (AutoListH.list___mul___list_int_3 l b.toArray n k t d g c) {e,?_}})
 rw[f];exact{.ref _,_,I.lnew (t':=s.toks) (r.rep k.toNat) (by rw[pi,Nat.mul_comm];exact i),rfl,q _ I.fresh}
end L2
namespace Att
open PySem PySem.W PySem.Calls PyProof.Rows
def pk:∀(ns:List Int) (c:List Value),WellAll P h c (ns.map WData.int)->IntsAre c ns:=by
 intro ns;induction ns with
 | nil=>
   intro c w;rw[List.map_nil] at w;cases w;exact .nil
 | cons n ns d=>
   intro c w;rw[BI] at w;cases w with
   | cons a b=>
     cases a;exact .cons _ _ (d _ b)
def pp{l:OpenLaw}{n:Nat}(B:l.most=some n){P:Params}{h:Heap}{args:List WData}{b:List Value}(c:l.row.toRowW.claim.pre args=true)(j:WellAll P h b args) :
 ∃a o ns,b=[Value.ref a]/\args=[WData.list (ns.map WData.int)]/\h.get? a=some { cls:=.type "list",data:=.seq o.toArray }/\IntsAre o ns/\ns.length<=n:=by
 have m:WShape.hasAll [] args [.list .int]=true:=(pre_splitW c).1;have p:l.pre.holds [] { args:=args }=true:=(pre_splitW c).2;obtain⟨d,r,rfl,u,A⟩:=hasAllW_cons m;obtain rfl:=hasAllW_nil A;obtain⟨C,rfl,y⟩:=hasW_list u;obtain⟨ns,rfl⟩:=items_int y;have e:ns.length<=n:=by
  delta OpenLaw.pre at p;have i:(WTm.not (.lt (.lit (.int (n:Int))) (.len (.arg 0)))).holds [] { args:=[.list (ns.map .int)] }=true:=by
   have i:=(holds_andW p).1;rw[B] at i;exact i
  have g:=condW_of i (w_not (w_lt w_lit (w_len_list (w_arg rfl))));rw[Ai] at g;refine EE λq=>?_
  have v:(n:Int)<((ns.length:Nat):Int):=by omega
  first
   | (rw[aA v] at g;exact absurd g 'z')
   | (simp at g;omega)
 cases j with
 | cons x s=>
   cases s;cases x with
   | list z f=>exact{_,_,ns,rfl,rfl,z,pk ns _ f,e}
def pq(l:OpenLaw)(args:List WData):l.row.toRowW.claim.post args (.bool true) args=true:=
 postW_of (r:=l.row.toRowW) (X:=(true == true))
  (show WShape.has [] (.bool true) .bool=true by first | rfl | decide | simp[WShape.has,WShape.arms,WShape.armsAll])
  (show (WTm.eq .res (.lit (.bool true))).value [] { args:=args,res:=some (.bool true),after:=args }=some (.bool (true == true)) from w_eq_bool (w_res rfl) w_lit) rfl
def attach_call{l:OpenLaw}{n:Nat}{q:Program}{c:List Str}{v:(Str->Option Value)->Heap->Prop}{f:World->Heap->Prop}{d:DefRec}(E:l.most=some n)(j:d.params.defaults=[])(call:∀(w:World) (e b:Shared) (p u:Str->Option Value) (i:Addr) (o:Obj) (s m g:Value) (a:Addr) (h:List Value) (ns:List Int),
  Ground q c [] v w e p u b.heap->f w b.heap->
  b.heap.get? i=some o->o.data=.func (docDef d.name d.params d.body d.scope s m g)->b.heap.CodeRec m d.name->p d.name=some (.ref i)->
  b.heap.get? a=some { cls:=.type "list",data:=.seq h.toArray }->IntsAre h ns->ns.length<=n->b.gens=#[]->
  codeAny (model l.prog w) callerA (.call (.ref i) {[.ref a],[]}) (λr s'=>r=.ok (.ret (.bool true))/\OldK b.heap s'.heap/\s'.os=b.os/\AllBare s'.gens) b) :
 WalkO q c v f l.row.toRowW d [] (λf h=>PySem.call f h):=by
 intro w e b p u G x i o s m g A kV J C v z q B y c N f d I n M;obtain rfl:A=.none:=Dflts.none z j;obtain rfl:kV=.none:=Dflts.noKw z;obtain⟨a,h,ns,rfl,rfl,j,c,d⟩:=pp E f n;refine enter_call (codeAny_mono (call w e b p u i o s m g a h ns G x J (fd_plain C) v q j c d B) λr s' a=>?_);obtain⟨rfl,d,b,c⟩:=a;exact{.inl {.bool true,.bool true,[],rfl,λ_=>rfl,.bool true,pq l _,λ_=>{List.Pairwise.nil,λ_ a=>(nomatch a)}},d,b,c}
section
variable{prog:Program}{w:World}{A:Around}{E:Value->Shared->Prop}{s:Shared}{K:Frag}
end
end Att
namespace L2
theorem jl:∀{a:List Value} {ns:List Int},IntsAre a ns->Aq 'k' a
 | _,_,.nil=>.nil
 | _,_,.cons n t h=>.cons ⟨t,rfl⟩ (jl h)
def HY(H:Hp):Prop:=∀b,H b=none\/∃o xs,H b=some (.frz o (.lst xs))
open H in
def pu{P:Program}{w:World}{K:FG}{z I:Str->Option Value}{f:EH}{k:Nat}{d a:Addr}{h:FuncData}{x:Str}{e:Sp}{c:Shared}{j:List Value}{ns:List Int}(Q:K.In c.heap)(y:c.heap.Ns mainGlobals z)(g:c.heap.Ns builtinsNs I)(E:∀x:Str,x≠"__name__"->I x=bootBuiltins x)(A:c.heap.NoLimit)(T:c.gens=#[])(B:c.heap.get? a=some { cls:=.type "list",data:=.seq j.toArray })(R:IntsAre j ns)(J:ns.length<=sizeLine)(W:AT k callerA)(F:∀b:Heap,K.In b->b.Ns mainGlobals z->Cs P w K z b f k d h [x] e)(l:∀(s:Shared) (u:Value),BindsTo s h {[u],[]} [(x,u)])(C:∀H:Hp,HY H->AY K H a 'k'->e [.ref a] H (λv _=>v=.bl true) λ_ _ _=>False)(x:∀H e s',f [] H c (λ_ _ _=>False) e s'->False) :
 codeAny (model P w) callerA (.call (.ref d) {[.ref a],[]}) (λr s'=>r=.ok (.ret (.bool true))/\OldK c.heap s'.heap/\s'.os=c.os/\AllBare s'.gens) c:=by
 have N:=jl R;have p:=R.length
 -- from an abstract heap in which nothing but the script may be tracked
 have i:∀H:Hp,HY H->AY K H a 'k'->Bo P w H c.heap->(∀b,H b≠none->b=a)->(H a≠none->K.lookup a=none)->
  codeAny (model P w) callerA (.call (.ref d) ⟨[.ref a],[]⟩) (λr s'=>r=.ok (.ret (.bool true))/\OldK c.heap s'.heap/\s'.os=c.os/\AllBare s'.gens) c:=by
  intro H M Y s O U;have f:∀{b:Addr} {o:Obj},c.heap.get? b=some o->H b=none->(EZ c.heap H).get? b=some o:=λe n=>nN e n
  have G:∀{b:Addr} {o:Obj} {es:Array DictEntry} {n:Nat},c.heap.get? b=some o->o.data=.dict es n->H b=none:=λ{b o es n} e d=>by
   cases q:H b with
   | none=>rfl
   | some u=>
     have e':b=a:=O b (by rw[q];simp);subst e';rw[B] at e;cases e;have d':Data.seq j.toArray _=Data.dict es n:=d;cases d'
  have h:∀{b:Addr} {m:Str->Option Value},c.heap.Ns b m->(EZ c.heap H).Ns b m:=λ{b m} ⟨o,es,n,e,d,r⟩=>{o,es,n,f e (G e d),d,r}
  have m:K.In (EZ c.heap H):=λb o e=>f (Q b o e) (by
   cases q:H b with
   | none=>rfl
   | some u=>
     have e':b=a:=O b (by rw[q];simp);subst e';rw[U (by rw[q];simp)] at e;cases e)
  have f:Mod K z (EZ c.heap H):={m,h y,{I,h g,E},let ⟨G,d,I⟩:=A;{G,h d,I}};have n:Hg P w K z (EZ c.heap H) callerA [] c H:={rfl,f,λb o e=>nO e,BQ (nM _ _),trivial,λb g=>absurd (show b∈([]:List Addr) from g) 'd',s,.of_eq T};refine codeAny_mono ((F _ m (h y)).run callerA [] c H {[.ref a],[]} [.ref a] [.ref a] _ _ W n (l c (.ref a)) (.cons rfl .nil) (C H M Y)) λr s' h=>?_
  cases r with
  | error e=>exact(x H e s' h).elim
  | ok c=>
    cases c with
    | next=>exact False.elim h
    | brk=>exact False.elim h
    | cont=>exact False.elim h
    | ret u=>
      obtain⟨v,l,m,d,f,c,r',q⟩:=h;have l:v=.bl true:=q;subst l;obtain rfl:u=Value.bool true:=r';refine{rfl,OldK.of_keep λb o e=>?_,m,d};cases q:H b with
      | none=>exact f.keep b o e q (by intro z;exact absurd (show b∈([]:List Addr) from z) 'd') 'd'
      | some u=>
        rcases M b with z | ⟨l,d,z⟩
        ·rw[q] at z;cases z
        ·have h:=f.frzs b l _ z
         obtain⟨d,_⟩:=s b _ z;obtain⟨f,_⟩:=c b _ h;rw[e] at d;cases d;exact f
 cases c:K.lookup a with
 | some o=>
   -- the script is one of the module's own objects
   have e:=Q a o c;rw[B] at e;cases e;refine i (λ_=>none) (λ_=>.inl rfl) (.inr {_,j.toArray,_,c,rfl,rfl,rfl,by rw[AX,p];exact J,by simpa using N}) (λb u z=>by have z':(none:Option HO)=some u:=z;cases z') (λb z=>absurd rfl z) λz=>absurd rfl z
 | none=>
   refine i (λb=>if b=a then some (.frz { cls:=.type "list",data:=.seq j.toArray } (.lst 'k')) else none) (λb=>?_) (.inl (.inr {{ cls:=.type "list",data:=.seq j.toArray },if_pos rfl})) (λb u z=>?_) (λb z=>?_) λ_=>c
   ·by_cases g:b=a
    ·exact .inr {_,_,if_pos g}
    ·exact .inl (if_neg g)
   ·by_cases g:b=a
    ·have z':=(if_pos g).symm.trans z
     cases z';subst g;exact{B,by rw[Ai];exact J,j,_,N,B}
    ·have z':=(if_neg g).symm.trans z
     cases z'
   ·by_cases g:b=a
    ·exact g
    ·exact absurd (if_neg g) z
def walk_of{l:PySem.W.OpenLaw}{n k:Nat}{q:Program}{b:List Str}{A:(Str->Option Value)->Heap->Prop}{f:World->Heap->Prop}{d:DefRec}{K:Params->FG}{CX:World->EH}{sp:World->Sp}{x:Str}(o:l.most=some n)(p:n<=sizeLine)(c:d.params.defaults=[])(z:AT k callerA)(y:∀(w:World) (h:Heap),f w h->(K w.params).In h)(F:∀(w:World) (g:Str->Option Value) (i:Addr) (h:Heap),(K w.params).In h->h.Ns mainGlobals g->g d.name=some (.ref i)->
  ∃r:FuncData,(∀(s:Shared) (u:Value),BindsTo s r {[u],[]} [(x,u)])/\
   ∀a:Heap,(K w.params).In a->a.Ns mainGlobals g->Cs l.prog w (K w.params) g a (CX w) k i r [x] (sp w))(j:∀(w:World) (H:Hp) (a:Addr) (ns:List Int),ns.length<=n->HY H->AY (K w.params) H a 'k'->sp w [.ref a] H (λv _=>v=.bl true) λ_ _ _=>False)(m:∀(w:World) (H:Hp) (s:Shared) (e:Value) (s':Shared),CX w [] H s (λ_ _ _=>False) e s'->False) :
 PySem.W.WalkO q b A f l.row.toRowW d [] (λf b=>PySem.call f b):=by
 refine Att.attach_call o c λw f d g l i o n h c a b ns G l s q n h f c b o=>?_
 have n:=y w _ l;obtain⟨r,s,q⟩:=F w g i _ n G.T.g h;exact pu n G.T.g G.T.b G.T.builtins G.T.nolimit o f c (Az b p) z q s (λH c f=>j w H a ns b c f) λH e s'=>m w H d e s'
def FN(s:Stmt):Arguments:=match s with
 | .FunctionDef _ a _ _ _ _ _ _ _ _=>a
 | _=>{ posonlyargs:=[],args:=[],vararg:=none,kwonlyargs:=[],kw_defaults:=[],kwarg:=none,defaults:=[] }
def B9(s:Stmt):List Stmt:=match s with
 | .FunctionDef _ _ b _ _ _ _ _ _ _=>b
 | _=>[]
def AM(s:Stmt):Scope:=match s with
 | .FunctionDef _ _ _ _ _ _ sc _ _ _=>sc
 | _=>{ kind:=.function,names:=[],isGenerator:=false,isCoroutine:=false }
abbrev CX0:EH:=λ_ _ _ _ _ _=>False
abbrev E0:XK:=λ_ _ _=>False
def eS:HX CX0 X E0:=λ_ _ _ _ _ _ _ h=>h.elim
structure CF(K:FG)(x qual:Str)(st:Stmt)(f:Addr)(fd:FuncData):Prop where
 ex:∃(oc:Value) (od:Option Addr) (kV doc pm:Value) (an:Option Addr) (cdv ct:Value) (osl:Array (Option Value)),
  fd=fnOf x qual (FN st) (B9 st) (AM st) .none kV doc pm an cdv ct/\K.lookup f=some {oc,od,.func fd,osl}/\codeIn K cdv qual=true
 kp:keepIn K (.ref f)=true
section
variable{P:Program}{w:World}{K:FG}{mg:Str->Option Value}{base:Heap}
def CF.ok{x b:Str}{g:Stmt}{f:Addr}{l:FuncData}{N j:List Str}{k:Nat}{i:Sp}(F:CF K x b g f l)(S:C5 N j (AM g))(h:∀d H Q E,i d H Q E->d.length=j.length)(e:∀(c:Value) (A:Around) (a:List Env) (s:Shared) (H:Hp) (d:List V) (Q:VK) (E:XK),AT k (A.deeper (envOfC b (AM g) s.heap.objs.size f c))->i d H Q E->
  ∃t,CP (CI CX0 P w K mg base N b (AM g) f c A a s H E).nox (B9 g) t/\t { nx:=λ_ b=>Q .non b,rt:=Q } (B8 N d) H):Cs P w K mg base CX0 (k+1) f l j i:=by
 obtain⟨m,f,kV,b,n,j,c,l,i,rfl,f,b⟩:=F.ex;refine oG f b S h λA a s H d Q E f b=>?_
 obtain⟨t,h,q⟩:=e c A a s H d Q E f b;exact⟨t,h.nox,q⟩
def CF.binds{x a:Str}{d:Stmt}{f:Addr}{j:FuncData}{i:List Str}(F:CF K x a d f j)(h:∀(kV c g:Value) (e:Option Addr) (b f:Value) (us:List Value),us.length=i.length->bindArgs (fnOf x a (FN d) (B9 d) (AM d) .none kV c g e b f) {us,[]}=pure (i.zip us)):Ga K j i []:=by
 obtain⟨a,j,kV,c,g,e,b,f,i,rfl,j,a⟩:=F.ex;exact .all (h kV c g e b f)
def pC{x a:Str}{st:Stmt}{f:Addr}{m:Value}{j h:Option Addr}{e:Array (Option Value)}{kV d i b g:Value}(l:K.lookup f=some {m,j,.func (fnOf x a (FN st) (B9 st) (AM st) .none kV d i h b g),e})(c:codeIn K b a=true)(k:keepIn K (.ref f)=true):CF K x a st f (fnOf x a (FN st) (B9 st) (AM st) .none kV d i h b g):={⟨m,j,kV,d,i,h,b,g,e,rfl,l,c⟩,k}
end
def pD{k:Nat}(a:AT k A):A.units+2<cLine:=Cb (Dt (by decide:2<=64) _) a.units
def dD{n:Nat}(h:n<=1000):n<sizeLine:=Cb h 'z'
def pv(i:Nat){x:Str}(d:autoParam (X.N[i]?=some x) uR)(c:Vis X.env.scope x:=by first | exact Or.inl rfl | exact Or.inr (Or.inl rfl) | exact Or.inr (Or.inr rfl))(b:autoParam 'u' uD)(a:autoParam ((x == ("__classdict__" : Str))=false) uD):PE X (.Name x pos) (B1 i):=nP d c b a
def dE{A B:Prop}(h:B):if false=true then A else B:=by
 rw[if_neg BP];exact h
def cV{A B:Prop}(h:A):if true=true then A else B:=by
 rw[if_pos rfl];exact h
def Ci(H H':Hp):Prop:=∀b o,H b=some o->H' b=some o
def Ci.refl(H:Hp):Ci H H:=λ_ _ h=>h
def Ci.seq{K:FG}{H b:Hp}{a:Addr}{c:List V}(e:Ci H b)(h:AY K H a c):AY K b a c:=by
 rcases h with (h | ⟨o,h⟩) | h
 ·exact .inl (.inl (e _ _ h))
 ·exact .inl (.inr {o,e _ _ h})
 ·exact .inr h
section
variable{L:Type}[DecidableEq L]
def Cj(kvs:List (L×V))(k:L):Option V:=(kvs.find? λkv=>decide (kv.1=k)).map (·.2)
def Bp(kvs:List (L×V))(k:L)(v:V):List (L×V):=
 if (kvs.any λkv=>decide (kv.1=k))=true then kvs.map (λkv=>if kv.1=k then (kv.1,v) else kv) else kvs++[(k,v)]
def cC{p:L×V}{r:List (L×V)}{k:L}(e:p.1=k):Cj (p::r) k=some p.2:=by simp[Cj,F6,e]
def cD{p:L×V}{r:List (L×V)}{k:L}(e:¬p.1=k):Cj (p::r) k=Cj r k:=by simp[Cj,F6,e]
theorem dG(k:L):∀a:List (L×V),(a.any λb=>decide (b.1=k))=(Cj a k).isSome
 | []=>rfl
 | p::r=>by
   rw[List.any_cons];by_cases e:p.1=k
   ·simp only[cC e,aA e,Bool.true_or,Option.isSome_some]
   ·rw[cD e,ax e,Bool.false_or];exact dG k r
def dH(a:List (L×V))(k:L)(v:V):(Bp a k v).length<=a.length+1:=by
 delta Bp;split
 ·rw[Ai];omega
 ·rw[A7,CD,F5];omega
theorem DP.isSome_eq(r:DP o u):o.isSome=u.isSome:=by
 cases o with
 | none=>cases u with
   | none=>rfl
   | some _=>exact(show False from r).elim
 | some _=>cases u with
   | none=>exact(show False from r).elim
   | some _=>rfl
theorem DP.getD(r:DP o u)(rd:Am d d'):Am (o.getD d) (u.getD d'):=by
 cases o with
 | none=>cases u with
   | none=>exact rd
   | some _=>exact(show False from r).elim
 | some _=>cases u with
   | none=>exact(show False from r).elim
   | some _=>exact r
theorem KV.val(r:KV a g)(k:L):DP (Cj a k) (valueAt g k):=by
 delta KV at r;induction r with
 | nil=>exact True.intro
 | @cons p q b c h t i=>
   obtain⟨d,f⟩:=h;by_cases e:p.1=k
   ·have e':q.1=k:=d.symm.trans e
    have b:valueAt (q::c) k=some q.2:=by simp[valueAt,F6,e']
    rw[cC e,b];exact f
   ·have e':¬q.1=k:=λz=>e (d.trans z)
    have b:valueAt (q::c) k=valueAt c k:=by simp[valueAt,F6,e']
    rw[cD e,b];exact i
theorem KV.any{a:List (L×V)}{c:List (L×Value)}(r:KV a c)(k:L):(a.any λb=>decide (b.1=k))=c.any λb=>decide (b.1=k):=by
 delta KV at r;induction r with
 | nil=>rfl
 | cons h t b=>rw[List.any_cons,List.any_cons,b,h.1]
theorem KV.repl(r:KV b f)(k:L)(g:Am y u) :
 KV (b.map λa=>if a.1=k then (a.1,y) else a) (f.map λa=>if a.1=k then (a.1,u) else a):=by
 delta KV at r ⊢;induction r with
 | nil=>exact .nil
 | @cons p q c a h t d=>
   rw[BI,BI];refine .cons ?_ d;obtain⟨a,c⟩:=h;by_cases e:p.1=k
   ·rw[if_pos e,if_pos (a.symm.trans e)];exact⟨a,g⟩
   ·rw[if_neg e,if_neg (λz=>e (a.trans z))];exact⟨a,c⟩
def KV.put(r:KV a b)(k:L)(c:Am y u):KV (Bp a k y) (stored b k u):=by
 delta Bp stored;rw[r.any k];by_cases e:(b.any λd=>decide (d.1=k))=true
 ·rw[if_pos e,if_pos e];exact r.repl k c
 ·rw[if_neg e,if_neg e];exact Paired.snoc r ⟨rfl,c⟩
def KV.length{a:List (L×V)}{b:List (L×Value)}(r:KV a b):a.length=b.length:=Paired.length r
end
def cE(r:Am (kV k) u):(BR P w).is k u=true:=by
 cases k with
 | inl i=>obtain⟨t,e⟩:=(show ∃t,u=Value.int i t from r);subst e;exact nz P w i t
 | inr x=>obtain⟨t,e⟩:=(show ∃t,u=Value.str x t from r);subst e;exact nA P w x t
theorem jm:∀{a:List Aw} {us:List Value},Aq (a.map kV) us->ItemsAre (BR P w) a us
 | [],_,r=>by rw[List.map_nil] at r;cases r;exact .nil
 | k::a,_,r=>by
   rw[BI] at r;cases r with
   | cons h t=>exact .cons (cE h) (jm t)
abbrev KT(H:Hp):List (List Al×V)->List (List Al×Addr×Value)->Prop:=Paired λp q=>p.1=q.1/\C4 H q.2.1 p.1/\Am p.2 q.2.2
theorem KT.val(r:KT H a i)(k:List Al):DP (Cj a k) ((atKey i k).map (·.2)):=by
 induction r with
 | nil=>exact True.intro
 | @cons p q b c h t g=>
   obtain⟨d,_,f⟩:=h;by_cases e:p.1=k
   ·have e':q.1=k:=d.symm.trans e
    have b:atKey (q::c) k=some q.2:=by simp[atKey,F6,e']
    rw[cC e,b];exact f
   ·have e':¬q.1=k:=λz=>e (d.trans z)
    have b:atKey (q::c) k=atKey c k:=by simp[atKey,F6,e']
    rw[cD e,b];exact g
theorem KT.repl(r:KT H b f)(k:List Al)(g:Am y u) :
 KT H (b.map λa=>if a.1=k then (a.1,y) else a) (f.map (putAt k u)):=by
 induction r with
 | nil=>exact .nil
 | @cons p q c a h t d=>
   rw[BI,BI];refine .cons ?_ d;obtain⟨a,c,i⟩:=h;delta putAt;by_cases e:p.1=k
   ·rw[if_pos e,if_pos (a.symm.trans e)];exact⟨a,c,g⟩
   ·rw[if_neg e,if_neg (λz=>e (a.trans z))];exact⟨a,c,i⟩
def KT.put(r:KT H a c)(k:List Al)(f:C4 H b k)(d:Am y u) :
 KT H (Bp a k y) (storedH c k b u):=by
 have e:(a.any λb=>decide (b.1=k))=(atKey c k).isSome:=by
  rw[dG,(r.val k).isSome_eq,Option.isSome_map]
 delta Bp storedH;rw[e];by_cases q:(atKey c k).isSome=true
 ·rw[if_pos q,if_pos q];exact r.repl k d
 ·rw[if_neg q,if_neg q];exact Paired.snoc r ⟨rfl,f,d⟩
def KT.keeps(r:KT H a e)(d:∀b c,H b=some (.tup c)->H' b=some (.tup c)):KT H' a e:=
 Paired.mapP r λ_ _ z=>{z.1,z.2.1.keeps d,z.2.2}
def jn(b:Bo P w H h)(e:Rd H a u):Bv P w H h a u:=e.ok b
def cF(d:Bo P w H h)(e:Rd H a (.dK b)):b.length<=sizeLine/\(a == sysModules)=false/\∃c,KV b c/\h.DictOf (BR P w) a c:=
 show Bv P w H h a (.dK b) from jn d e
def jo(d:Bo P w H h)(e:H a=some (.dK b)):b.length<=sizeLine/\(a == sysModules)=false/\∃c,KV b c/\h.DictOf (BR P w) a c:=cF d (.inl e)
def pE{b:List Aw}(g:Bo P w H h)(e:H a=some (.tup (b.map kV))):(tupleKind (BR P w)).is h b a:=by
 obtain⟨_,c,r,⟨o,f,d,n,i⟩,_⟩:=(show Bv P w H h a (.tup (b.map kV)) from g a _ e);exact{o,c.toArray,n,f,d,i,by simpa using jm r}
theorem pF(a:Bo P w H h):∀{k:Al} {v:V} {u:Value},KIs H k v->Am v u->Cd P w h k u
 | .inl i,_,_,e,r=>by subst e;obtain⟨t,rfl⟩:=r;exact iJ i t
 | .inr x,_,_,e,r=>by subst e;obtain⟨t,rfl⟩:=r;exact iK x t
 | .t l,_,_,⟨b,e,q⟩,r=>by subst e;cases r;exact{b,rfl,pE a q}
theorem jp(g:Bo P w H h):∀{e:List Al} {f:List V} {us:List Value},Paired (KIs H) e f->Aq f us->Paired (Cd P w h) e us
 | _,_,_,.nil,.nil=>.nil
 | _,_,_,.cons a b,.cons c d=>.cons (pF g a c) (jp g b d)
def key_of(c:Bo P w H h)(e:C4 H a d):(EN P w).is h d a:=by
 obtain⟨i,e,f⟩:=e;obtain⟨_,b,r,⟨o,j,g,n,l⟩,_⟩:=(show Bv P w H h a (.tup i) from c a _ e);exact{o,b.toArray,n,j,g,l,by simpa using jp c f r}
def cW{A:Around}(a:A.units+2<cLine):(EN P w).room A.in1:=by
 show A.in1.units+1<cLine;rw[Around.in1_units];exact a
def cq(f:Bo P w H h)(e:Rd H a (.dT b)):b.length<=sizeLine/\(a == sysModules)=false/\
 ∃c,KT H b c/\h.DictOfH (EN P w) a c:=by
 obtain⟨z,y,c,r,o,es,j,d,m,i,l,g⟩:=(show Bv P w H h a (.dT b) from jn f e);refine{z,y,c,r,o,es,j,d,m,i,l,λx a=>?_,g};have c:∀{l:List (List Al×V)} {m:List (List Al×Addr×Value)},KT H l m->∀x∈m,(EN P w).is h x.1 x.2.1:=by
  intro l m q;induction q with
  | nil=>intro x a;exact nomatch a
  | @cons p q i h d t g=>
    intro x a;rcases AE.mp a with e | a
    ·subst e
     exact key_of f (by rw[<-d.1];exact d.2.1)
    ·exact g x a
 exact c r x a
def gh(d:Bo P w H h)(e:H a=some (.dT b)):b.length<=sizeLine/\(a == sysModules)=false/\
 ∃c,KT H b c/\h.DictOfH (EN P w) a c:=cq d (.inl e)
def BS(H:Hp)(a:Addr)(y:V)(r:Option V):Prop:=
 (∃kvs k,Rd H a (.dK kvs)/\y=kV k/\r=Cj kvs k)\/∃kvs k b,Rd H a (.dT kvs)/\y=.ref b/\C4 H b k/\r=Cj kvs k
def EO(H:Hp)(a:Addr)(y v:V)(H':Hp):Prop:=
 (∃kvs k,H a=some (.dK kvs)/\y=kV k/\kvs.length<sizeLine/\H'=Ag H a (.dK (Bp kvs k v)))\/
 ∃kvs k b,H a=some (.dT kvs)/\y=.ref b/\C4 H b k/\kvs.length<sizeLine/\H'=Ag H a (.dT (Bp kvs k v))
def BS.k{H:Hp}{a:Addr}{b:List (Aw×V)}{k:Aw}(e:H a=some (.dK b)):BS H a (kV k) (Cj b k):=.inl {b,k,.inl e,rfl,rfl}
def BS.t{H:Hp}{a b:Addr}{c:List (List Al×V)}{k:List Al}(e:H a=some (.dT c))(d:C4 H b k):BS H a (.ref b) (Cj c k):=.inr {c,k,b,.inl e,rfl,d,rfl}
def EO.k{H:Hp}{a:Addr}{b:List (Aw×V)}{k:Aw}{v:V}(e:H a=some (.dK b))(c:b.length<sizeLine):EO H a (kV k) v (Ag H a (.dK (Bp b k v))):=.inl ⟨b,k,e,rfl,c,rfl⟩
def EO.t{H:Hp}{a b:Addr}{c:List (List Al×V)}{k:List Al}{v:V}(e:H a=some (.dT c))(f:C4 H b k)(d:c.length<sizeLine) :
 EO H a (.ref b) v (Ag H a (.dT (Bp c k v))):=.inr ⟨c,k,b,e,rfl,f,d,rfl⟩
def Ab.big(I:Ab X a Y H s):sysModules<s.heap.objs.size:=by
 have h:mainGlobals<s.heap.objs.size:=(I.mod.glob.keeps I.bk).lt;exact Nat.lt_trans 'z' h
def pG(r:A.units+2<cLine)(I:Ab X m Y H s)(g:BS H a y (some v))(i:Am y u)(h:∀w' s',Ab X m Y H s'->Am v w'->Q w' s') :
 wpAny 'e' A (getItem (.ref a) u) Q E s:=by
 rcases g with⟨a,k,e,d,l⟩ | ⟨a,k,b,e,d,q,l⟩
 ·subst d
  obtain⟨z,j,n,c,f⟩:=cF I.hok e;obtain⟨w',g,a⟩:=DP.some_of (v:=v) (o:=valueAt n k) (by rw[l];exact c.val k);exact wpAny_getItem_of (cE i) f.mapOf g (h w' _ (I.tok _) a)
 ·subst d
  cases (show u=Value.ref b from i);obtain⟨z,j,d,c,f⟩:=cq I.hok e;obtain⟨w',g,a⟩:=DP.some_of (v:=v) (o:=(atKey d k).map (·.2)) (by rw[l];exact c.val k);obtain⟨p,d,b⟩:=Option.map_eq_some_iff.mp g;refine wpAny_getItem_heap (cW r) (key_of I.hok q) f d ?_;rw[b];exact h w' _ (I.tok _) a
def pH(m:A.units+2<cLine)(I:Ab X j Y H s)(g:BS H a y o)(i:Am y u)(h:∀s',Ab X j Y H s'->Q (.bool o.isSome) s') :
 wpAny 'e' A (compareOp .In u (.ref a)) Q E s:=by
 rcases g with⟨a,k,e,d,l⟩ | ⟨a,k,b,e,d,g,l⟩
 ·subst d
  obtain⟨z,c,n,a,f⟩:=cF I.hok e;refine wpAny_in_of (cE i) c f.mapOf ?_;rw[<-(a.val k).isSome_eq,<-l];exact h _ (I.tok _)
 ·subst d
  cases (show u=Value.ref b from i);obtain⟨z,c,d,a,f⟩:=cq I.hok e;refine wpAny_in_heap (cW m) (key_of I.hok g) c f ?_;have q:=(a.val k).isSome_eq;rw[Option.isSome_map] at q;rw[<-q,<-l];exact h _ (I.tok _)
def pI(m:A.units+2<cLine)(I:Ab X j Y H s)(g:BS H a y o)(i:Am y u)(h:∀s',Ab X j Y H s'->Q (.bool (!o.isSome)) s') :
 wpAny 'e' A (compareOp .NotIn u (.ref a)) Q E s:=by
 rcases g with⟨a,k,e,d,l⟩ | ⟨a,k,b,e,d,g,l⟩
 ·subst d
  obtain⟨z,c,n,a,f⟩:=cF I.hok e;refine wpAny_notIn_of (cE i) c f.mapOf ?_;rw[<-(a.val k).isSome_eq,<-l];exact h _ (I.tok _)
 ·subst d
  cases (show u=Value.ref b from i);obtain⟨z,c,d,a,f⟩:=cq I.hok e;refine wpAny_notIn_heap (cW m) (key_of I.hok g) c f ?_;have q:=(a.val k).isSome_eq;rw[Option.isSome_map] at q;rw[<-q,<-l];exact h _ (I.tok _)
def dI{t':Nat}(I:Ab X f Y H s)(h:Mut (H a))(d:Heap.SameBut a s.heap h')(g:∃q,h'.get? a=some q)(c:Bv X.prog X.w (Ag H a ob) h' a ob) :
 Ab X f Y (Ag H a ob) { s with heap:=h',toks:=t' }:=
 I.write (x:=a) (e:=a) h (.inl rfl) (λb q a z=>(d.2 b a).trans z) g c
def jq(z:b.length<=sizeLine)(e:(a == sysModules)=false)(c:KV b d)(f:h'.DictOf (BR P w) a d) :
 Bv P w H' h' a (.dK b):=⟨z,e,d,c,f⟩
def pJ(G:A.units+2<cLine)(I:Ab X C Y H s)(g:EO H a y v H')(B:Am y u)(x:Am v r)(h:∀s',Ab X C Y H' s'->Q () s') :
 wpAny 'e' A (setItem (.ref a) u r) Q E s:=by
 rcases g with⟨c,k,e,j,l,i⟩ | ⟨c,k,b,e,j,p,l,i⟩
 ·subst j i
  obtain⟨z,g,f,d,l⟩:=jo I.hok e;have o:f.length<=sizeLine:=by rw[<-d.length];exact z
  have m:(Bp c k v).length<=sizeLine:=by have:=dH c k v;omega
  refine wpAny_setItem_pairs (hsz:=o) (cE B) l λr f n=>h _ ?_
  have s:∃q,r.get? a=some q:=let ⟨q,_,_,a,_⟩:=f;⟨q,a⟩;exact dI I (by rw[e];exact True.intro) n s (jq m g (d.put k x) f)
 ·subst j i
  cases (show u=Value.ref b from B);obtain⟨z,g,i,d,l⟩:=gh I.hok e;have o:i.length<=sizeLine:=by rw[<-Paired.length d];exact z
  have m:(Bp c k v).length<=sizeLine:=by have:=dH c k v;omega
  refine wpAny_setItem_heap (hsz:=o) (cW G) (key_of I.hok p) l λr f n=>h _ ?_
  obtain⟨q,es,j,a,o,h,l,_,i⟩:=f;refine dI I (by rw[e];exact True.intro) n ⟨q,a⟩ {m,g,_,(d.put k p x).keeps λc d b=>?_,q,es,j,a,o,h,l,i};rw[ah (ci b e (λz=>nomatch z))];exact b
def HZ(i:Expr):Prop:=∀ov iv,subscripted i false ov iv=operate [ov,iv] (getItem ov iv)
def pK{T a:String}(d:typeLookup (.type T) "__getitem__" = pure (some (.builtin a)))(e:HZ slice)(h:wpAny 'r' A (eval value env) (λo b=>wpAny 'r' A (eval slice env) (λi a=>a.TypeIs o T/\wpAny 'r' A (getItem o i) Q E a) E b) E s) :
 wpAny 'r' A (eval (.Subscript value slice pos) env) Q E s:=by
 refine Subscript_ (Db h (λo b c=>Db c (λi a b=>?_) λ_ _ x=>x) λ_ _ x=>x);obtain⟨c,b⟩:=b;delta subscriptTail;refine Ac ?_;rw[getitemInPython_of_ne c.not_modules];refine Ac (wpAny_specialOf c d ?_);have fin:wpAny 'r' A (subscripted slice false o i) (λr c=>wpAny 'r' A (letTemporaryGo value o r >>= λ_=>pure r) Q E c) E a:=by
  rw[e o i];exact wpAny_operating (Db b (λr c a=>Ac (wpAny_letTemporaryGo (Ao a))) λ_ _ x=>x)
 first
  | exact Ao (Ac fin)
  | exact Ac (Ao (Ac fin))
  | exact Ac fin
def pL(I:Ab X c Y H s)(g:BS H a y o):s.TypeIs (.ref a) "dict":=by
 rcases g with⟨a,k,e,_,_⟩ | ⟨a,k,b,e,_,_,_⟩
 ·obtain⟨_,_,b,_,a⟩:=cF I.hok e
  exact a.typeIs
 ·obtain⟨_,_,b,_,a⟩:=cq I.hok e
  exact a.typeIs
def KB(td ty:TE):TE:=λY H Q=>td Y H λx H1=>ty Y H1 λy H2=>∃a v,x=.ref a/\BS H2 a y (some v)/\Q v H2
def KC(ty td:TE):TE:=λY H Q=>ty Y H λy H1=>td Y H1 λx H2=>∃a o,x=.ref a/\BS H2 a y o/\Q (.bl o.isSome) H2
def KD(ty td:TE):TE:=λY H Q=>ty Y H λy H1=>td Y H1 λx H2=>∃a o,x=.ref a/\BS H2 a y o/\Q (.bl (!o.isSome)) H2
def KF(td ty tv:TE):TS:=λD Y H=>tv Y H λv H1=>td Y H1 λx H2=>ty Y H2 λy H3=>∃a H4,x=.ref a/\EO H3 a y v H4/\D.nx Y H4
def dJ(j:X.A.units+2<cLine)(n:PE X o td)(r:PE X i ty)(f:HZ i):PE X (.Subscript o i pos) (KB td ty):=by
 intro c s Y H Q I h;refine pK PySem.F.slot_dict_getitem.lookup f (ai (n c s Y H _ I h) λu m ⟨x,H1,I1,e,d⟩=>ai (r c m Y H1 _ I1 d) λC B hI95=>?_);obtain⟨y,H2,I2,p,a,v,q,g,l⟩:=hI95;subst q;obtain rfl:u=Value.ref a:=e;exact{pL I2 g,pG j I2 g p λw' z I3 b=>⟨v,H2,I3,b,l⟩}
def pM(c:X.A.units+2<cLine)(j:PE X i ty)(e:PE X o td):PC X .In i o (KC ty td):=by
 intro a s Y H Q I h;refine ai (j a s Y H _ I h) λg d ⟨y,H1,I1,f,b⟩=>ai (e a d Y H1 _ I1 b) λu a hI96=>?_
 obtain⟨x,H2,I2,b,a,e,h,g,d⟩:=hI96;subst h;obtain rfl:u=Value.ref a:=b;exact pH c I2 g f λa I3=>{.bl e.isSome,H2,I3,rfl,d}
def jr(c:X.A.units+2<cLine)(j:PE X i ty)(e:PE X o td):PC X .NotIn i o (KD ty td):=by
 intro a s Y H Q I h;refine ai (j a s Y H _ I h) λg d ⟨y,H1,I1,f,b⟩=>ai (e a d Y H1 _ I1 b) λu a hI97=>?_
 obtain⟨x,H2,I2,b,a,e,h,g,d⟩:=hI97;subst h;obtain rfl:u=Value.ref a:=b;exact pI c I2 g f λa I3=>{.bl (!e.isSome),H2,I3,rfl,d}
def gk(e:X.A.units+2<cLine)(z:PE X o td)(G:PE X i ty)(q:PE X value tv)(l:swapsWith value (some (.Subscript o i pos')) pos.line X.env=pure false) :
 PS X (.Assign [.Subscript o i pos'] value pos) (KF td ty tv):=by
 intro b s Y H D I h;refine wpAny_Assign_Subscript (ai (q b s Y H _ I h) λr f ⟨v,H1,I1,m,j⟩=>ai (z b f Y H1 _ I1 j) λu n ⟨x,H2,I2,d,p⟩=>ai (G b n Y H2 _ I2 p) λN J hI98=>?_) l;obtain⟨y,H3,I3,B,a,c,E,g,C⟩:=hI98;subst E;obtain rfl:u=Value.ref a:=d;exact pJ e I3 g B m λM I4=>⟨Y,c,I4,C⟩
def pN(h:Heap)(a:sysModules<h.objs.size):Bv P w H (h.push { cls:=.type "dict",data:=.dict #[] }) h.objs.size (.dK []):=
 {AF _,beq_eq_false_iff_ne.mpr (Ne.symm (Br a)),[],.nil,Heap.DictOf.new h}
def gm(h:Heap)(a:sysModules<h.objs.size):Bv P w H (h.push { cls:=.type "dict",data:=.dict #[] }) h.objs.size (.dT []):=
 {AF _,beq_eq_false_iff_ne.mpr (Ne.symm (Br a)),[],.nil,_,#[],0,Be _ rfl,⟨rfl,rfl,rfl⟩,rfl,rfl,List.nodup_nil}
def KG:TE:=λ_ H Q=>∀p,H p=none->Q (.ref p) (Ag H p (.dT []))
def pO:PE X (.Dict [] [] pos) KG:=λb s Y H Q I h=>
 wpAny_Dict_empty {.ref s.heap.objs.size,_,I.laid (a:=s.heap.objs.size) (o:=.dT []) (t':=s.toks) (λ_ _ q=>AJ _ q) (Ap _) (gm s.heap I.big),rfl,h _ (I.hok.fresh (Ap _))}
def GE:List (TE×TE)->St->Hp->(List (V×V)->Hp->Prop)->Prop
 | [],_,H,Q=>Q [] H
 | (tk,tv)::r,Y,H,Q=>tk Y H λx H1=>tv Y H1 λy H2=>GE r Y H2 λps H3=>Q ((x,y)::ps) H3
abbrev VV:List (V×V)->List (Value×Value)->Prop:=Paired λp q=>Am p.1 q.1/\Am p.2 q.2
instance PPs(X:Cx)(pos:Pos)(keys:List (Option Expr))(values:List Expr)(trs:List (TE×TE)):Prop:=
 ∀(A5:List 'p') (s:Shared) (Y:St) (H:Hp) (Q:List (V×V)->Hp->Prop),Ab X A5 Y H s->GE trs Y H Q->
  wpAny 'e' X.A (evalPairs (pairTrees keys values X.env pos)) (λvs s'=>∃ps H',Ab X A5 Y H' s'/\VV ps vs/\Q ps H') X.xe s
def gn:PPs X pos [] [] []:=λa s Y H Q I h=>pairTrees_nil_walk {[],H,I,.nil,h}
def eT(b:PE X k tk)(e:PE X v tv)(f:PPs X pos d i trs) :
 PPs X pos (some k::d) (v::i) ((tk,tv)::trs):=λa s Y H Q I h=>
 pairTrees_cons_walk (ai (b a s Y H _ I h) λu g ⟨x,H1,I1,c,b⟩=>ai (e a g Y H1 _ I1 b) λh e ⟨y,H2,I2,g,b⟩=>
  ai (f a e Y H2 _ I2 b) λf h ⟨e,H3,I3,a,b⟩=>{(x,y)::e,H3,I3,.cons ⟨c,g⟩ a,b})
def E4(kvs more:List (Aw×V)):List (Aw×V):=more.foldl (λacc kv=>Bp acc kv.1 kv.2) kvs
theorem KV.merge:∀{b:List (Aw×V)} {d:List (Aw×Value)} {a:List (Aw×V)} {c:List (Aw×Value)},KV b d->KV a c->KV (E4 a b) (merged c d):=by
 intro b d a c r;delta KV at r;induction r generalizing a c with
 | nil=>intro q;exact q
 | @cons p q d e h t b=>
   intro d;have e:KV (Bp a p.1 p.2) (stored c q.1 q.2):=by
    have:=d.put p.1 h.2;rw[<-h.1];exact this
   exact b e
theorem js:∀(b a:List (Aw×V)),(E4 a b).length<=a.length+b.length
 | [],a=>by show a.length<=a.length+0;omega
 | p::r,a=>by
   have b:=js r (Bp a p.1 p.2);have b:=dH a p.1 p.2;show (E4 (Bp a p.1 p.2) r).length<=_;rw[CD];omega
theorem jt:∀{d:List (Aw×V)} {a:List (Value×Value)},VV (d.map λb=>(kV b.1,b.2)) a->∃e,Carries (BR P w) a e/\KV d e
 | [],_,r=>by rw[List.map_nil] at r;cases r;exact{[],True.intro,.nil}
 | p::d,_,r=>by
   rw[BI] at r;cases r with
   | @cons a b c f h t=>
     obtain⟨e,c,q⟩:=jt (P:=P) (w:=w) t;obtain⟨f,a⟩:=b;exact{(p.1,a)::e,{cE h.1,rfl,c},.cons ⟨rfl,h.2⟩ q}
def Jx(trs:List (TE×TE)):TE:=λY H Q=>∀p,H p=none->GE trs Y (Ag H p (.dK [])) λps H2=>H2 p=some (.dK [])/\∃kvs:List (Aw×V),ps=kvs.map (λkv=>(kV kv.1,kv.2))/\kvs.length<=15/\Q (.ref p) (Ag H2 p (.dK (E4 [] kvs)))
def ju(h:PPs X pos keys values trs)(b:keys.all (·.isSome)=true)(f:keys.length=values.length)(g:keys≠[])(c:keys.length<=15):PE X (.Dict keys values pos) (Jx trs):=by
 intro d s Y H Q I q;have e:=I.hok.fresh (Ap s.heap.objs.size);have I1:=I.laid (a:=s.heap.objs.size) (o:=.dK []) (h':=s.heap.push { cls:=.type "dict",data:=.dict #[] }) (t':=s.toks) (λ_ _ q=>AJ _ q) (Ap _) (pN s.heap I.big);refine wpAny_Dict_walk (knd:=BR X.prog X.w) b f g c (ai (h d _ Y _ _ I1 (q _ e)) λb c hI99=>?_);obtain⟨f,H2,I2,d,e,b,g,c,m⟩:=hI99;subst g;obtain⟨f,c,l⟩:=jt (P:=X.prog) (w:=X.w) d;obtain⟨z,h,j,g,i⟩:=jo I2.hok e;cases g;refine{f,c,i,λh' d g=>{.ref s.heap.objs.size,_,?_,rfl,m}};have f:(E4 [] b).length<=sizeLine:=by
  have c:=js b [];rw[F5] at c;rw[sizeLine_eq];omega
 have i:∃q,h'.get? s.heap.objs.size=some q:=let ⟨q,_,_,b,_⟩:=d;⟨q,b⟩;exact dI I2 (by rw[e];exact True.intro) g i (jq f h (l.merge .nil) d)
structure M2(X:Cx)(o:Expr)(m:Str)(apos:Pos)(e f:Expr)(cpos:Pos):Prop where
 base:attributeBase o m X.env (eval o X.env)=eval o X.env
 few:((backTo cpos (starEach [e,f] X.env)).all (λx=>!x.1)&&(backToKw cpos (keywordEach [] X.env)).all (λx=>x.1.isSome)
  && decide (([e,f]:List Expr).length+([]:List Keyword).length+(if ([]:List Keyword).isEmpty then 0 else 1)<30))=true
 line:(apos.endLine == cpos.line)=true
 trees:backTo cpos (starEach [e,f] X.env)=[(false,eval e X.env),(false,eval f X.env)]
instance IsD(H:Hp)(a:Addr):Prop:=(∃kvs,Rd H a (.dK kvs))\/∃kvs,Rd H a (.dT kvs)
def pP(I:Ab X i Y H s)(d:IsD H a) :
 s.TypeIs (.ref a) "dict"/\(∀b,Value.ref a=.ref b->∃c,s.heap.get? b=some c/\c.dict=none)/\(a == sysModules)=false:=by
 rcases d with⟨a,e⟩ | ⟨a,e⟩
 ·obtain⟨_,d,f,_,a⟩:=cF I.hok e
  refine{a.typeIs,λb q=>?_,d};cases q;obtain⟨c,_,_,g,f,_⟩:=a;exact⟨c,g,f.2.1⟩
 ·obtain⟨_,d,h,_,a⟩:=cq I.hok e
  refine{a.typeIs,λb q=>?_,d};cases q;obtain⟨c,_,_,g,f,_⟩:=a;exact⟨c,g,f.2.1⟩
def pQ(n:A.units+2<cLine)(I:Ab X m Y H s)(g:BS H a y o)(j:Am y u)(rd:Am d r)(h:∀w' s',Ab X m Y H s'->Am (o.getD d) w'->Q w' s') :
 wpAny 'e' A (call (.builtin "dict.get") [.ref a,u,r]) Q E s:=by
 rcases g with⟨c,k,e,i,l⟩ | ⟨c,k,b,e,i,g,l⟩
 ·subst i
  obtain⟨z,f,o,c,d⟩:=cF I.hok e;refine call_meetsIn PySem.F.slot_dict_get d.typeIs PySem.F.entry_dict_get (PySem.F.args_dict_get_3 _ _ _) (meets_dict_get_default (BR X.prog X.w) a (cE j) f r) {_,d.mapOf,h _ _ (I.tok _) ?_};rw[l];exact(c.val k).getD rd
 ·subst i
  cases (show u=Value.ref b from j);obtain⟨z,f,i,c,d⟩:=cq I.hok e;refine call_meetsIn PySem.F.slot_dict_get d.typeIs PySem.F.entry_dict_get (PySem.F.args_dict_get_3 _ _ _) (meetsH_dict_get_default (EN X.prog X.w) a b f r) {cW n,k,i,key_of I.hok g,d,h _ _ (I.tok _) ?_};rw[l];exact(c.val k).getD rd
def KH(td ty tx:TE):TE:=λY H Q=>td Y H λx H1=>∃a,x=.ref a/\IsD H1 a/\ty Y H1 λy H2=>tx Y H2 λz H3=>∃o,BS H3 a y o/\Q (o.getD z) H3
def pR(i:X.A.units+2<cLine)(a:PE X o td)(j:PE X e ty)(l:PE X f tx)(m:M2 X o "get" apos e f cpos):PE X (.Call (.Attribute o "get" apos) [e,f] [] cpos) (KH td ty tx):=by
 intro b s Y H Q I h;refine wpAny_Call_method m.base m.few m.line PySem.F.plainAttrs_dict PySem.F.slot_dict_get PySem.F.type_dict_get (ai (a b s Y H _ I h) λu e hI100=>?_);obtain⟨x,H1,I1,c,a,f,d,g⟩:=hI100;subst f;obtain rfl:u=Value.ref a:=c;obtain⟨f,h,_⟩:=pP I1 d;refine{f,h,?_};rw[m.trees];refine Calls.callWith_builtin rfl (Calls.evalArgs_plain (Calls.spliced_cons (ai (j b e Y H1 _ I1 g) λf a ⟨y,H2,I2,d,c⟩=>Calls.spliced_cons (ai (l b a Y H2 _ I2 c) λb a ⟨z,H3,I3,c,e,g,b⟩=>Calls.spliced_nil ?_))));exact pQ i I3 g d c λw' e I4 a=>{_,H3,I4,a,b}
section
variable{L:Type}[DecidableEq L]
end
def E5(cells:List (Str×Addr)):List (Str×NameKind)->List (Str×Addr)->List (Str×Addr)
 | [],cs=>cs
 | (n,k)::r,cs=>E5 cells r (if k == .free then (match cells.lookup n with | some a=>(n,a)::cs | none=>cs) else cs)
theorem jv:∀(names:List (Str×NameKind)) (cs:List (Str×Addr)),(∀y∈names,y.2=.free->∃a,env.cells.lookup y.1=some a)->
 (forIn (m:=Sem) names cs λ(x:Str×NameKind) (r:List (Str×Addr))=>
  match x with
  | (b,kind)=>if (kind == .free)=true then do let a <-cellOf env b;pure (ForInStep.yield ((b,a)::r)) else pure (ForInStep.yield r))=pure (E5 env.cells names cs)
 | [],cs,_=>rfl
 | (n,k)::r,cs,h=>by
   rw[List.forIn_cons];have d:=λb=>jv (env:=env) r b λy e=>h y (Ed _ e)
   by_cases c:(k == NameKind.free)=true
   ·have b:k=.free:=by simpa using c
    obtain⟨a,e⟩:=h (n,k) EY b;simp only[c,if_true,E5,cellOf];have b:env.cells.lookup n=some a:=e;rw[b];exact d _
   ·simp only[c,E5]
    exact d _
def pS(h:∀y∈scope.names,y.2=.free->∃a,env.cells.lookup y.1=some a):closureFor scope env=pure (E5 env.cells scope.names []):=by
 simp only[closureFor];have e:=jv (env:=env) scope.names [] h;have a:=congrArg (λm:Sem (List (Str×Addr))=>m >>= pure) e;exact a
def dM{α:Type}{x n:Str}{v:α}{l:List (Str×α)}:List.lookup x ((n,v)::l)=if x=n then some v else l.lookup x:=by
 rw[List.lookup_cons];by_cases e:x=n
 ·subst e;simp
 ·rw[if_neg e]
  have:(x == n)=false:=by simpa using e
  rw[this]
theorem jw{cells:List (Str×Addr)}:∀(names:List (Str×NameKind)) (cs:List (Str×Addr)) (x:Str) (c:Addr),
 (∀x c,cs.lookup x=some c->cells.lookup x=some c)->(E5 cells names cs).lookup x=some c->cells.lookup x=some c
 | [],cs,x,c,h,e=>h x c e
 | (n,k)::r,cs,x,c,h,e=>by
   refine jw r _ x c (λy d b=>?_) e;by_cases f:(k == NameKind.free)=true
   ·rw[if_pos f] at b
    cases c:cells.lookup n with
    | none=>rw[c] at b;exact h y d b
    | some a=>
      rw[c] at b;have b:List.lookup y ((n,a)::cs)=some d:=b;rw[dM] at b;by_cases e:y=n
      ·rw[if_pos e] at b;cases b;rw[e];exact c
      ·rw[if_neg e] at b;exact h y d b
   ·rw[if_neg f] at b;exact h y d b
theorem jx{cells:List (Str×Addr)}:∀(names:List (Str×NameKind)) (cs:List (Str×Addr)) (x:Str),(∃c,cs.lookup x=some c)->∃c,(E5 cells names cs).lookup x=some c
 | [],_,_,h=>h
 | (n,k)::r,cs,x,h=>by
   refine jx r _ x ?_;by_cases b:(k == NameKind.free)=true
   ·rw[if_pos b]
    cases d:cells.lookup n with
    | none=>exact h
    | some a=>
      show ∃c,List.lookup x ((n,a)::cs)=some c;rw[dM];by_cases e:x=n
      ·rw[if_pos e];exact{_,rfl}
      ·rw[if_neg e];exact h
   ·rw[if_neg b];exact h
theorem jy{cells:List (Str×Addr)}:∀(names:List (Str×NameKind)) (cs:List (Str×Addr)) (x:Str),(x,NameKind.free)∈names->(∃a,cells.lookup x=some a)->∃c,(E5 cells names cs).lookup x=some c
 | [],_,_,h,_=>nomatch h
 | (n,k)::r,cs,x,h,b=>by
   rcases AE.mp h with e | g
   ·have f:x=n:=congrArg Prod.fst e
    have d:NameKind.free=k:=congrArg Prod.snd e;subst f d;obtain⟨a,b⟩:=b;refine jx r _ x ?_;show ∃c,List.lookup x (if (NameKind.free == NameKind.free)=true then (match cells.lookup x with | some a=>(x,a)::cs | none=>cs) else cs)=some c;rw[if_pos (by rfl),b];show ∃c,List.lookup x ((x,a)::cs)=some c;rw[dM,if_pos rfl];exact{_,rfl}
   ·exact jy r _ x g b
instance pick(Y:St)(ixs:List (Option Nat)):St:=ixs.map λo=>match o with
 | some i=>(Y[i]?).join
 | none=>none
def B2(X:Cx)(N':List Str)(scope:Scope)(cl:List (Str×Addr))(C:Addr)(s:Shared)(H:Hp)(fp:List Addr):Cx:=
 { X with N:=N',s₀:=s,H₀:=H,env:=compEnvC scope cl C X.env,outer:=X.stack,ex:=fp,fn:=λ_=>false,pn:=[],xe:=λ_ _=>False }
def Ft(env:Env)(n:Str)(k:NameKind):NameKind:=if (k == NameKind.free&&env.scope.kind == .function&&env.kindOf n == some .cell)=true then .cell else k
theorem jz{env:Env}:∀{names:List (Str×NameKind)} {x:Str},(names.map λ(n,k)=>if (k == NameKind.free&&env.scope.kind == .function&&env.kindOf n == some .cell) then (n,NameKind.cell) else (n,k)).lookup x=(names.lookup x).map (Ft env x)
 | [],_=>rfl
 | (n,k)::r,x=>by
   have a:=@jz env r x;rw[BI];have b:(if (k == NameKind.free&&env.scope.kind == .function&&env.kindOf n == some .cell)=true then (n,NameKind.cell) else (n,k))=(n,Ft env n k):=by
    delta Ft;split<;>rfl
   show List.lookup x ((if (k == NameKind.free&&env.scope.kind == .function&&env.kindOf n == some .cell)=true then (n,NameKind.cell) else (n,k))::_)=_;rw[b,dM,dM];by_cases e:x=n
   ·rw[if_pos e,if_pos e,e];rfl
   ·rw[if_neg e,if_neg e];exact a
structure E6(X:Cx)(N':List Str)(ixs:List (Option Nat))(scope:Scope):Prop where
 kind:scope.kind=.function
 nocell:∀y∈scope.names,y.2≠.cell
 loc:∀y∈scope.names,y.2=.local->scope.names.lookup y.1=some .local
 len:ixs.length=N'.length
 free:∀y∈scope.names,y.2=.free->X.env.scope.names.lookup y.1=some .cell\/X.env.scope.names.lookup y.1=some .free
 slot:∀(j i:Nat) (y:Str),N'[j]?=some y->ixs[j]?=some (some i)->X.N[i]?=some y/\scope.names.lookup y=some .free
open H in
def E6.clos(S:E6 X N' ixs scope)(I:Ab X c Y H s):closureFor scope X.env=pure 'v':=
 pS λy a b=>I.ok.has y.1 (S.free y a b)
open H in
def Ab.comp{t':Nat}(I:Ab X B Y H s)(S:E6 X N' ixs scope)(i:∀b∈fp,Di X B H b)(f:∀b∈fp,∃o,s.heap.get? b=some o/\∀v,o.data≠.cell v)(n:∀b o,s.heap.get? b=some o->h'.get? b=some o)(m:h'.Ns s.heap.objs.size (λ_=>none)) :
 Ab (B2 X N' scope 'v' s.heap.objs.size s H fp) [] (pick Y ixs) H { s with heap:=h',toks:=t' }:=by
 have d:∀x c,'v'.lookup x=some c->X.env.cells.lookup x=some c:=λx c e=>jw _ _ x c (λ_ _ z=>absurd z 'd') e
 have a:∀x c,X.env.cells.lookup x=some c->c<s.heap.objs.size:=λx c e=>by obtain⟨v,z⟩:=I.cell x c e;exact z.lt
 have a:∀b∈fp,b<s.heap.objs.size:=λb h=>by obtain⟨o,e,_⟩:=f b h;exact Heap.lt_size e
 have f:∀x,Env.kindOf (compEnvC scope 'v' s.heap.objs.size X.env) x=(scope.names.lookup x).map (Ft X.env x):=λx=>jz
 have g:∀x,scope.names.lookup x=some .free->∃c,'v'.lookup x=some c:=λx e=>
  jy _ _ x (PySem.mem_of_lookup e) (I.ok.has x (S.free _ (PySem.mem_of_lookup e) rfl))
 have freeOf:∀x,(Env.kindOf (compEnvC scope 'v' s.heap.objs.size X.env) x=some .cell\/Env.kindOf (compEnvC scope 'v' s.heap.objs.size X.env) x=some .free)->scope.names.lookup x=some .free:=λx e=>by
  rw[f x] at e;cases q:scope.names.lookup x with
  | none=>rw[q] at e;rcases e with e | e<;>cases e
  | some k=>
    rw[q] at e;have l:=S.nocell _ (PySem.mem_of_lookup q);delta Ft at e;rcases e with e | e
    ·have e:=Option.some.inj e
     dsimp only at e;split at e
     ·rename_i j
      have:(k == NameKind.free)=true:=by
       cases p:(k == NameKind.free) with
       | true=>rfl
       | false=>rw[p] at j;simp at j
      rw[show k=.free by simpa using this]
     ·exact absurd e l
    ·have e:=Option.some.inj e
     dsimp only at e;split at e
     ·cases e
     ·rw[e]
 refine{{I.ok.mod,S.kind,I.ok.glob,I.ok.blt,Ap _,λx y c j l=>I.ok.inj x y c (d x c j) (d y c l),λx A=>g x (freeOf x A),(λ_ _ z _=>Bool.noConfusion z),I.ok.hd,I.ok.frames,.inl rfl,λb h=>{Br (a b h),λx c e=>(i b h).2.2.2.2.1 x c (d x c e)},λb o e=>I.bs b o e,Az I.ok.bsz I.sz,λb o e h=>?_,λb h z=>?_,I.stack,I.stkFree},rfl,I.bare,Un.kept n,{_,m,λj x v r l a=>?_},λx c e=>?_,I.hok.fresh (Ap _),λx c e=>I.freeC x c (d x c e),(λp a=>absurd (show p∈([]:List 'p') from a) 'd'),I.hok.kept n,?_}
 ·-- base objects are no iterators
  have a:=i b h;rcases a.2.2.2.1 with z | z
  ·exact I.ok.noex b o e z
  ·exact absurd (A6 (Heap.lt_size (I.ok.bs b o e).1) z) (Dd _)
 ·-- iterators are no frames
  have a:=i b h;rcases AE.mp (I.stkSub b z) with e | e
  ·exact a.2.1 e
  ·exact a.2.2.1 e
 ·-- the names
  have a:(pick Y ixs)[j]?=some (some v):=l;delta pick at a;rw[AK] at a;cases q:ixs[j]? with
  | none=>rw[q] at a;cases a
  | some o=>
    rw[q] at a;cases o with
    | none=>cases a
    | some i=>
      have b:(Y[i]?).join=some v:=Option.some.inj a;have p:Y[i]?=some (some v):=by
       cases z:Y[i]? with
       | none=>rw[z] at b;cases b
       | some a=>rw[z] at b;rw[show a=some v from b]
      obtain⟨A,a⟩:=S.slot j i x r q;obtain⟨m,_,h⟩:=I.loc;have b:Vis X.env.scope x:=by
       rcases S.free _ (PySem.mem_of_lookup a) rfl with z | z
       ·exact .inr (.inl z)
       ·exact .inr (.inr z)
      obtain⟨u,r,l⟩:=h i x v A p b;refine{u,r,.inr {?_,?_}}
      ·show Env.kindOf (compEnvC scope 'v' s.heap.objs.size X.env) x=some .cell\/Env.kindOf (compEnvC scope 'v' s.heap.objs.size X.env) x=some .free
       rw[f x,a];show some (Ft X.env x .free)=_\/some (Ft X.env x .free)=_;delta Ft;split
       ·exact .inl rfl
       ·exact .inr rfl
      ·obtain⟨c,f⟩:=g x a
       refine{c,f,?_};have b:=d x c f;rcases l with⟨k,_⟩ | ⟨_,g,f,z⟩
       ·have k':X.env.scope.names.lookup x=some .local:=k
        rcases S.free _ (PySem.mem_of_lookup a) rfl with z | z<;>(rw[show ((x,NameKind.free):Str×NameKind).1=x from rfl,k'] at z;cases z)
       ·rw[b] at f;cases f
        obtain⟨o,b,a⟩:=z;exact{o,n c o b,a}
 ·obtain⟨v,o,b,a⟩:=I.cell x c (d x c e)
  exact{v,o,n c o b,a}
 ·show (pick Y ixs).length=N'.length
  delta pick;rw[Ai];exact S.len
def pT(I:Nat->Shared->Prop)(turn:∀n s,I n s->wpAny 'r' A (pyNext it) (λr b=>match r with
  | none=>R (.ok .next) b
  | some v=>wpAny 'r' A (letOwnedTupleGo target it v) (λ_ g=>wpAny 'r' A (assign target env v) (λ_ d=>
   wpAny 'r' A (forIn ifs true λc r=>if r=true then do let i <-isTrue c env (eval c env);pure (ForInStep.yield i) else pure (ForInStep.yield r)) (λi a=>
    if i=true then wpAny 'r' A (eval elt env) (λx e=>
     wpAny 'r' A (call (.builtin "list.append") [acc,x]) (λ_ f=>∃m,m<n/\I m f) (λ_ _=>False) e) (λ_ _=>False) a
    else ∃m,m<n/\I m a) (λ_ _=>False) d) (λ_ _=>False) g) (λ_ _=>False) b) (λ_ _=>False) s)(n:Nat)(h:I n s) :
 codeAny 'r' A (.compLoop (.ListComp elt [{target,iter,ifs,0}] scope pos) 0 it acc env) R s:=by
 refine codeAny_loop rfl I (λn s c=>?_) n h;show wpAny _ A ((compTurn (.ListComp elt [{target,iter,ifs,0}] scope pos) 0 it acc env).onRaise (λx=>do noteFrame x env;theTreesLotGoes x)) _ _ s;refine wpAny_noted ?_;rw[compTurn_list];refine Ac (wpAny_standAt (Ac (Db (turn n s c) (λr b h=>?_) λ_ _ c=>c.elim)));cases r with
 | none=>exact Ao h
 | some v=>
   refine Ac (Db h (λ_ g b=>Ac (Db b (λ_ d g=>Ac (Db g (λi a b=>?_) λ_ _ c=>c.elim)) λ_ _ c=>c.elim)) λ_ _ c=>c.elim);cases i with
   | false=>exact Ao ⟨rfl,b⟩
   | true=>
     exact Ac (Ac (Db b (λx e a=>Ac (Db a (λ_ f b=>Ao (Ao ⟨rfl,b⟩)) λ_ _ c=>c.elim)) λ_ _ c=>c.elim))
instance PTs(X:Cx)(ifs:List Expr)(t:TT):Prop:=
 ∀(A5:List 'p') (s:Shared) (Y:St) (H:Hp) (Q:Bool->Hp->Prop),Ab X A5 Y H s->t Y H Q->
  wpAny 'e' X.A (forIn ifs true λc r=>if r=true then do let ok <-isTrue c X.env (eval c X.env);pure (ForInStep.yield ok) else pure (ForInStep.yield r)) (TP X A5 Y Q) X.xe s
def KI:TT:=λ_ H Q=>Q true H
def pU:PTs X [] KI:=λ_ _ _ H _ I h=>wpAny_tests_nil ⟨H,I,h⟩
def pV(h:PT X c t):PTs X [c] t:=λa s Y H Q I q=>wpAny_tests_one (h a s Y H Q I q)
def H8(wi:TI)(ixs:List (Option Nat))(g:TG)(tc:TT)(te:TE):TE:=λY H Q=>wi Y H λJ H1=>∀D,H1 D=none->
 ∃W:Nat->Nat->St->Hp->Prop,(∃m,W 0 m (pick Y ixs) (Ag H1 D (.lst [])))/\∀i m Y' H',W i m Y' H'->
  (J.stop i H'/\Q (.ref D) H')\/(J.go i H'/\∃N:St->Hp->Prop,(∀Y2 H2,N Y2 H2->∃m',m' < m/\W (i+1) m' Y2 H2)/\∀x H2,J.yld i H' x H2->g x Y' H2 λY3 H3=>
   tc Y3 H3 λb H4=>if b=true then te Y3 H4 λy H5=>∃ys,H5 D=some (.lst ys)/\ys.length<sizeLine/\N Y3 (Ag H5 D (.lst (ys++[y]))) else N Y3 H4)
def jA{B:List 'p'}{Y:St}{H2:Hp}{a:Shared}{r:Addr}{h:List Addr}{G:Nat->Heap->Prop}{J:It}{E:Value->Shared->Prop}{RR:Value->Addr->Result->Shared->Prop}{Q:VK}(S:E6 X N' ixs scope)(U:X.calm=true)(I2:Ab X B Y H2 a)(T:E2 X.prog X.w X.K tg J h r G)(z:G 0 a.heap)(f2:∀b∈h,Di X B H2 b)(I:∀c C s H h,PG (B2 X N' scope c C s H h) tg g/\PTs (B2 X N' scope c C s H h) ifs tc/\PE (B2 X N' scope c C s H h) elt te)(M:∀D,H2 D=none->∃W:Nat->Nat->St->Hp->Prop,(∃m,W 0 m (pick Y ixs) (Ag H2 D (.lst [])))/\∀i m A j,W i m A j->
  (J.stop i j/\Q (.ref D) j)\/(J.go i j/\∃N:St->Hp->Prop,(∀c H2,N c H2->∃m',m' < m/\W (i+1) m' c H2)/\∀x H2,J.yld i j x H2->g x A H2 λc H3=>
   tc c H3 λb d=>if b=true then te c d λy H5=>∃ys,H5 D=some (.lst ys)/\ys.length<sizeLine/\N c (Ag H5 D (.lst (ys++[y]))) else N c d))(hR:∀(D C:Addr) (j:Hp) (s':Shared) (m:Str->Option Value),s'.heap.Ns C m->C≠X.env.locals->j C=none->X.s₀.heap.objs.size<=C->(∀x c,X.env.cells.lookup x=some c->c≠C)->(∀p∈X.pn++B,p.1≠C)->C∉X.fs->Ab X B Y j s'->Q (.ref D) j->RR (.ref D) C (.ok .next) s') :
 wpAny 'e' X.A (newList []) (λg e=>wpAny 'e' X.A (newFunctionEnv scope X.env.globals 'v' [] X.env.qual none .none (some X.env)) (λd f=>
  codeAny 'e' X.A (.compStart (.ListComp elt [{tg,iter,ifs,0}] scope pos) 0 (.ref r) g { d with scope:=relabel scope X.env }) (RR g d.locals) f) E e) E a:=by
 have O:H2 a.heap.objs.size=none:=I2.hok.fresh (Ap _);refine wpAny_newObj_type ?_;have I3:Ab X B Y (Ag H2 a.heap.objs.size (.lst [])) { a with heap:=a.heap.push { cls:=.type "list",dict:=none,data:=.seq ([]:List Value).toArray } }:=
  I2.lnew (ys:=[]) (its:=[]) (t':=a.toks) .nil (AF _)
 generalize g:({ a with heap:=a.heap.push { cls:=.type "list",dict:=none,data:=.seq ([]:List Value).toArray } }:Shared)=s3 at I3;have n:∀b o,a.heap.get? b=some o->s3.heap.get? b=some o:=λb o e=>by rw[<-g];exact AJ _ e
 have l:s3.heap.objs.size=a.heap.objs.size+1:=by rw[<-g];exact DZ _ _
 have J:wpAny 'e' X.A (newFunctionEnv scope X.env.globals 'v' [] X.env.qual none .none (some X.env)) (λd f=>
  codeAny 'e' X.A (.compStart (.ListComp elt [{tg,iter,ifs,0}] scope pos) 0 (.ref r) (.ref a.heap.objs.size) { d with scope:=relabel scope X.env }) (RR (.ref a.heap.objs.size) d.locals) f) E s3:=by
  refine wpAny_newFunctionEnv S.nocell (by intro y f;simp at f) (λq C d=>?_) S.kind;have l:∀b o,s3.heap.get? b=some o->q.get? b=some o:=λb o e=>d.extBut b o (Br (Heap.lt_size e)) (AJ _ e)
  have g:∀b∈h,∃o,a.heap.get? b=some o/\∀v,o.data≠.cell v:=T.obj 0 a.heap z;have u:∀b∈h,Di X B (Ag H2 a.heap.objs.size (.lst [])) b:=λb f=>by
   obtain⟨o,e,_⟩:=g b f;exact{by rw[ah (Br (Heap.lt_size e))];exact(f2 b f).1,(f2 b f).2}
  have I4:=I3.comp (h':=q) (t':=s3.toks+([]:List (Str×Value)).length) S u (λb f=>let ⟨o,e,d⟩:=g b f;{o,n b o e,d}) l C;have s:G 0 q:=T.keep 0 _ _ z λb _ o e=>l b o (n b o e)
  show codeAny 'e' X.A (.compStart (.ListComp elt [{tg,iter,ifs,0}] scope pos) 0 (.ref r) (.ref a.heap.objs.size) (compEnvC scope 'v' s3.heap.objs.size X.env)) (RR (.ref a.heap.objs.size) s3.heap.objs.size) { s3 with heap:=q,toks:=s3.toks+([]:List (Str×Value)).length };have l:G 0 ({ s3 with heap:=q,toks:=s3.toks+([]:List (Str×Value)).length }:Shared).heap:=s;generalize ({ s3 with heap:=q,toks:=s3.toks+([]:List (Str×Value)).length }:Shared)=s4 at I4 l ⊢;obtain⟨W,⟨C,E⟩,step⟩:=M a.heap.objs.size O;have q:∀b∈h,b<s3.heap.objs.size:=λb f=>by
   obtain⟨o,e,_⟩:=g b f;exact Heap.lt_size (n b o e)
  have g:∀{j:Hp},(∀b∈h,j b=none)->∀b∈h,Di (B2 X N' scope 'v' s3.heap.objs.size s3 (Ag H2 a.heap.objs.size (.lst [])) h) [] j b:=λn b f=>
   {n b f,Br (q b f),λz=>I4.ok.exfs b f z,.inl f,(I4.ok.exf b f).2,λp O=>absurd (show p∈([]:List 'p') from O) 'd'}
  have s:codeAny 'e' X.A (.compLoop (.ListComp elt [⟨tg,iter,ifs,0⟩] scope pos) 0 (.ref r) (.ref a.heap.objs.size) (compEnvC scope 'v' s3.heap.objs.size X.env)) (RR (.ref a.heap.objs.size) s3.heap.objs.size) s4:=by
   obtain⟨Z,ht,he⟩:=I 'v' s3.heap.objs.size s3 (Ag H2 a.heap.objs.size (.lst [])) h;refine pT (λn s'=>∃i A j,Ab (B2 X N' scope 'v' s3.heap.objs.size s3 (Ag H2 a.heap.objs.size (.lst [])) h) [] A j s'/\G i s'.heap/\(∀b∈h,j b=none)/\W i n A j) ?_ C {0,_,_,I4,l,λb f=>(u b f).1,E};rintro n Y ⟨i,M,H5,I5,C,I,r⟩;rcases step i n M H5 r with⟨E,q⟩ | ⟨go,N,hN,Q⟩
   ·refine ai (T.done (B2 X N' scope 'v' s3.heap.objs.size s3 (Ag H2 a.heap.objs.size (.lst [])) h) rfl rfl rfl U i [] Y M H5 (λ_ _=>False) I5 (g I) C E) λr R hI101=>?_
    obtain⟨E,I6⟩:=hI101;subst E;obtain⟨m,P,_⟩:=I6.loc;refine hR _ _ H5 R m P (Ne.symm (Br I3.lt)) I6.free I3.sz (λx c e z=>?_) (λp O z=>?_) (I3.nofs (Ap _)) (I3.call' (ch:=h) I6.os I6.base I6.hok I6.bare λb f=>{(u b f).2.2.2.1,(u b f).2.1,(u b f).2.2.2.2.1,(u b f).2.2.2.2.2}) q
    ·obtain⟨v,y⟩:=I3.cell x c e
     have:=y.lt;rw[z] at this;exact absurd this (Dd _)
    ·have:=Heap.lt_size (I3.pin p O).1
     rw[z] at this;exact absurd this (Dd _)
   ·refine ai (T.item (B2 X N' scope 'v' s3.heap.objs.size s3 (Ag H2 a.heap.objs.size (.lst [])) h) rfl rfl rfl U i [] Y M H5 (λ_ _=>False) I5 (g I) C go) λr R hI102=>?_
    obtain⟨u,E,c⟩:=hI102;subst E;refine ai c λ_ z hI103=>?_
    obtain⟨x,H7,I7,q,r,c,p⟩:=hI103;have I7':=I7.pinned (g p) (T.obj _ _ c);refine ai (Z _ z M H7 x u _ I7' q (Q x H7 r)) λ_ g hI104=>?_
    obtain⟨q,p,I8,r⟩:=hI104;refine ai (ht _ g q p _ I8 r) λE C hI105=>?_
    obtain⟨x,I9,u⟩:=hI105;have again:∀{r:Shared} {p:St} {g:Hp},Ab (B2 X N' scope 'v' s3.heap.objs.size s3 (Ag H2 a.heap.objs.size (.lst [])) h) ([]++GC h z.heap) p g r->N p g->
     ∃m,m<n/\∃i A j,Ab (B2 X N' scope 'v' s3.heap.objs.size s3 (Ag H2 a.heap.objs.size (.lst [])) h) [] A j r/\G i r.heap/\(∀b∈h,j b=none)/\W i m A j:=λ{r p g} h m=>by
     obtain⟨m',P,j⟩:=hN p g m;refine{m',P,i+1,p,g,h.unpinned,T.keep _ _ _ c λb f o e=>(h.pin (b,o) (EA _ (EA _ (eP f e)))).1,λb f=>?_,j};obtain⟨o,e,d⟩:=T.obj _ _ c b f;exact(h.pin (b,o) (EA _ (EA _ (eP f e)))).2.1
    cases E with
    | false=>
      rw[if_neg 'z'] at u ⊢;exact again I9 u
    | true=>
      rw[if_pos rfl] at u ⊢;refine ai (he _ C q x _ I9 u) λv d hI106=>?_
      obtain⟨y,e,I10,c,ys,g,f,b⟩:=hI106;refine ai (pb _ d q e (.ref a.heap.objs.size) [y] (.ref a.heap.objs.size) [v] (λ_ H=>N q H) I10 rfl (.cons c .nil) {_,ys,y,rfl,rfl,g,f,b}) λ_ a hI107=>?_
      obtain⟨_,b,I11,_,a⟩:=hI107;exact again I11 a
  refine codeAny_compStart_list s (T.self _ 0 _ _ _ l s)
 exact J
def pW(S:E6 X N' ixs scope)(f:X.calm=true)(j:PI X tg iter wi)(b:∀c C s H a,PG (B2 X N' scope c C s H a) tg g/\PTs (B2 X N' scope c C s H a) ifs tc/\PE (B2 X N' scope c C s H a) elt te)(c:autoParam (∀x,foldedSetIterable iter X.env x=pure x) Nb._auto_1) :
 PE X (.ListComp elt [⟨tg,iter,ifs,0⟩] scope pos) (H8 wi ixs g tc te):=by
 intro d s Y H Q I h;rw[eval_ListComp];refine wpAny_comprehension_free (use:=none) rfl c (S.clos I) S.kind S.loc (ai (j d s Y H _ I h) λv g c=>ai c λe i h=>?_);obtain⟨c,a,e,J,H2,rfl,I2,T,c,f2,g⟩:=h;refine jA (RR:=λa C=>compPost 'e' X.A X.xe none (EP X d Y Q) a C) S f I2 T c f2 b g ?_;intro D C e s' m b h g f c a d i q;refine{m,b,λl d=>{.ref D,e,?_,rfl,q}};exact i.turned (t':=s'.toks) (λb o i e=>d.extBut b o i e) g h (.inr f) c a
open H in
def pX{i:Nat}{y:Str}(S:E6 X N' ixs scope)(l:X.calm=true)(u:X.N.Nodup)(r:X.N[i]?=some y)(j:X.env.scope.names.lookup y=some .local)(Cr:PI X tg iter wi)(c:∀b C s H a,PG (B2 X N' scope b C s H a) tg g/\PTs (B2 X N' scope b C s H a) ifs tc/\PE (B2 X N' scope b C s H a) elt te)(d:swapsWith (.ListComp elt [{tg,iter,ifs,0}] scope pos) (some (.Name y py)) spos.line X.env=pure true)(e:autoParam (∀x,foldedSetIterable iter X.env x=pure x) Nb._auto_1) :
 PS X (.Assign [.Name y py] (.ListComp elt [⟨tg,iter,ifs,0⟩] scope pos) spos) (F8 (H8 wi ixs g tc te) (F7 i)):=by
 intro b s Y H D I h;rw[exec_Assign_Name_used _ _ _ _ d];refine Ac (wpAny_standAt (Ac ?_));show wpAny _ X.A (do let _ <-comprehension (.ListComp elt [⟨tg,iter,ifs,0⟩] scope pos) scope X.env _ (newList []) false (eval iter X.env) (some (assign (.Name y py) X.env))) _ _ s;refine Ac (Db (wpAny_comprehension_free (use:=some (assign (.Name y py) X.env)) (Q:=λ_ s'=>SP X b D .next s') rfl e (S.clos I) S.kind S.loc (ai (Cr b s Y H _ I h) λv m d=>ai d λe f g=>?_)) (λ_ s' d=>Ao (Ao d)) λ_ _ e=>e);obtain⟨d,a,f,J,H2,rfl,I2,T,d,f2,f⟩:=g;refine jA (Q:=λx H1=>F7 i x Y H1 D.nx) (RR:=λa C=>compPost 'e' X.A X.xe (some (assign (.Name y py) X.env)) (λ_ s'=>SP X b D .next s') a C) S l I2 T d f2 c f ?_;intro a C o s' m p i n g c d f b q;show wpAny _ X.A (assign (.Name y py) X.env (.ref a)) _ _ _;refine wpAny_assign_Name (iP (v:=V.ref a) b u r (.inl j) rfl (λl I3 hI108=>?_) (.inr j));obtain⟨a,h,f⟩:=hI108;have b:C≠a:=by
  rcases f with rfl | f
  ·exact i
  ·exact λz=>c y a f z.symm
 refine{m,p.sameBut h b,λf a=>{_,o,?_,q}};exact I3.turned (t':=l.toks) (λb o f e=>a.extBut b o f e) n i (.inr g) c d
set_option genInjectivity true in
inductive D where
 | non | bl (b:Bool) | int (i:Int) | str (x:Str) | tup (l:List D) | lst (l:List D) | dct (ks vs:List D) | fl (l:List D) | fd (ks vs:List D)
def Ct:Aw->D
 | .inl i=>.int i
 | .inr x=>.str x
def Ep:Al->D
 | .inl i=>.int i
 | .inr x=>.str x
 | .t l=>.tup (l.map Ct)
def AD(k:List Al):D:=.tup (k.map Ep)
mutual
noncomputable def Is(K:FG)(A:Addr->Prop)(H:Hp):D->V->Prop
 | .non,v=>v=.non
 | .bl b,v=>v=.bl b
 | .int i,v=>v=.int i
 | .str x,v=>v=.str x
 | .tup l,v=>∃a vs,v=.ref a/\H a=some (.tup vs)/\aa K A H l vs
 | .lst l,v=>∃a vs,v=.ref a/\A a/\H a=some (.lst vs)/\aa K A H l vs
 | .dct ks l,v=>∃a vs,v=.ref a/\A a/\aa K A H l vs/\
  ((∃kk:List Aw,ks=kk.map Ct/\kk.length=vs.length/\H a=some (.dK (kk.zip vs)))\/(∃kk:List (List Al),ks=D.non::kk.map AD/\kk.length=vs.length/\H a=some (.dT (kk.zip vs))))
 | .fl l,v=>∃a o vs,v=.ref a/\H a=some (.frz o (.lst vs))/\aa K A H l vs
 | .fd ks l,v=>∃(a:Addr) (o:Obj) (vs:List V) (kk:List (List Al)),v=.ref a/\ks=kk.map AD/\kk.length=vs.length/\H a=some (.frz o (.dT (kk.zip vs)))/\aa K A H l vs
noncomputable def aa(K:FG)(A:Addr->Prop)(H:Hp):List D->List V->Prop
 | [],vs=>vs=[]
 | d::l,vs=>∃v r,vs=v::r/\Is K A H d v/\aa K A H l r
end
def C8(o:HO):Prop:=(∃u,o=.tup u)\/∃ob u,o=.frz ob u
structure Bg(A A':Addr->Prop)(H H':Hp):Prop where
 sty:∀b o,H b=some o->C8 o->H' b=some o
 nod:∀b o,A b->H b=some o->A' b/\H' b=some o
section
variable{K:FG}{A A':Addr->Prop}{H H':Hp}
def Bg.tup(k:Bg A A' H H')(b:Addr)(u:List V)(h:H b=some (.tup u)):H' b=some (.tup u):=k.sty b _ h (.inl {_,rfl})
def Bg.frz(k:Bg A A' H H')(b:Addr)(o:Obj)(u:HO)(h:H b=some (.frz o u)):H' b=some (.frz o u):=k.sty b _ h (.inr {_,_,rfl})
mutual
theorem Is.mono(k:Bg A A' H H'):∀{d:D} {v:V},Is K A H d v->Is K A' H' d v
 | .non,_,h=>h
 | .bl _,_,h=>h
 | .int _,_,h=>h
 | .str _,_,h=>h
 | .tup l,v,h=>by
   obtain⟨a,b,e,q,i⟩:=h;exact{a,b,e,k.tup a b q,aa.mono k i}
 | .lst l,v,h=>by
   obtain⟨a,b,e,n,q,i⟩:=h;exact{a,b,e,(k.nod a _ n q).1,(k.nod a _ n q).2,aa.mono k i}
 | .dct g l,v,h=>by
   obtain⟨a,b,e,n,i,q⟩:=h;refine{a,b,e,?_,aa.mono k i,?_}
   ·rcases q with⟨_,_,_,q⟩ | ⟨_,_,_,q⟩<;>exact(k.nod a _ n q).1
   ·rcases q with⟨d,c,f,q⟩ | ⟨d,c,f,q⟩
    ·exact .inl {d,c,f,(k.nod a _ n q).2}
    ·exact .inr {d,c,f,(k.nod a _ n q).2}
 | .fl l,v,h=>by
   obtain⟨a,o,b,e,q,i⟩:=h;exact{a,o,b,e,k.frz a o _ q,aa.mono k i}
 | .fd g l,v,h=>by
   obtain⟨a,o,b,d,e,c,f,q,i⟩:=h;exact{a,o,b,d,e,c,f,k.frz a o _ q,aa.mono k i}
theorem aa.mono(k:Bg A A' H H'):∀{l:List D} {a:List V},aa K A H l a->aa K A' H' l a
 | [],_,h=>h
 | d::l,a,h=>by
   unfold aa at h ⊢;obtain⟨v,r,e,i,j⟩:=h;exact{v,r,e,Is.mono k i,aa.mono k j}
end
def aa.nil:aa K A H [] a↔a=[]:=by unfold aa;rfl
def aa.cons{d:D}{l:List D}{a:List V}:aa K A H (d::l) a↔∃v r,a=v::r/\Is K A H d v/\aa K A H l r:=by conv=>lhs;unfold aa
theorem aa.length:∀{l:List D} {a:List V},aa K A H l a->l.length=a.length
 | [],a,h=>by rw[aa.nil.mp h];rfl
 | d::l,a,h=>by
   obtain⟨v,r,e,_,j⟩:=aa.cons.mp h;rw[e,CD,CD,aa.length j]
theorem aa.get:∀{l:List D} {a:List V} {i:Nat} {d:D},aa K A H l a->l[i]?=some d->∃v,a[i]?=some v/\Is K A H d v
 | [],_,_,_,_,e=>by simp at e
 | x::l,a,0,d,h,e=>by
   obtain⟨v,r,e',i,_⟩:=aa.cons.mp h;simp at e;subst e e';exact⟨v,rfl,i⟩
 | x::l,a,i+1,d,h,e=>by
   obtain⟨v,r,e',_,j⟩:=aa.cons.mp h;subst e';simpa using aa.get (i:=i) j (by simpa using e)
theorem aa.append:∀{l m:List D} {a us:List V},aa K A H l a->aa K A H m us->aa K A H (l++m) (a++us)
 | [],m,a,us,h,g=>by rw[aa.nil.mp h];exact g
 | d::l,m,a,us,h,g=>by
   obtain⟨v,r,e,i,j⟩:=aa.cons.mp h;subst e;exact aa.cons.mpr {v,r++us,rfl,i,aa.append j g}
def aa.one(h:Is K A H d v):aa K A H [d] [v]:=aa.cons.mpr {v,[],rfl,h,aa.nil.mpr rfl}
theorem aa.take:∀{l:List D} {a:List V} (n:Nat),aa K A H l a->aa K A H (l.take n) (a.take n)
 | _,_,0,_=>by simp only[List.take_zero];exact aa.nil.mpr rfl
 | [],a,n+1,h=>by rw[aa.nil.mp h];simp only[List.take_nil];exact aa.nil.mpr rfl
 | d::l,a,n+1,h=>by
   obtain⟨v,r,e,i,j⟩:=aa.cons.mp h;subst e;exact aa.cons.mpr {v,r.take n,rfl,i,aa.take n j}
theorem aa.drop:∀{l:List D} {a:List V} (n:Nat),aa K A H l a->aa K A H (l.drop n) (a.drop n)
 | _,_,0,h=>by simpa only[List.drop_zero] using h
 | [],a,n+1,h=>by rw[aa.nil.mp h];simp only[List.drop_nil];exact aa.nil.mpr rfl
 | d::l,a,n+1,h=>by
   obtain⟨v,r,e,i,j⟩:=aa.cons.mp h;subst e;exact aa.drop n j
theorem aa.reverse:∀{l:List D} {a:List V},aa K A H l a->aa K A H l.reverse a.reverse
 | [],a,h=>by rw[aa.nil.mp h];exact aa.nil.mpr rfl
 | d::l,a,h=>by
   obtain⟨v,r,e,i,j⟩:=aa.cons.mp h;subst e;rw[GA,GA];exact aa.append (aa.reverse j) (aa.one i)
theorem aa.set:∀{l:List D} {a:List V} (n:Nat) {d:D} {v:V},aa K A H l a->Is K A H d v->aa K A H (l.set n d) (a.set n v)
 | [],a,n,d,v,h,_=>by rw[aa.nil.mp h];simp only[List.set_nil];exact aa.nil.mpr rfl
 | x::l,a,0,d,v,h,g=>by
   obtain⟨w,r,e,i,j⟩:=aa.cons.mp h;subst e;exact aa.cons.mpr ⟨v,r,rfl,g,j⟩
 | x::l,a,n+1,d,v,h,g=>by
   obtain⟨w,r,e,i,j⟩:=aa.cons.mp h;subst e;exact aa.cons.mpr {w,r.set n v,rfl,i,aa.set n j g}
end
mutual
noncomputable def D.imm:D->Bool
 | .tup l=>D.immL l
 | .lst _=>false
 | .dct _ _=>false
 | .fd _ _=>false
 | .fl l=>D.immL l
 | _=>true
noncomputable def D.immL:List D->Bool
 | []=>true
 | d::l=>D.imm d&&D.immL l
end
section
variable{K:FG}{A A':Addr->Prop}{H:Hp}
mutual
theorem Is.ofImm:∀{d:D} {v:V},d.imm=true->Is K A H d v->Is K A' H d v
 | .non,_,_,h=>h
 | .bl _,_,_,h=>h
 | .int _,_,_,h=>h
 | .str _,_,_,h=>h
 | .tup l,v,m,h=>by
   obtain⟨a,b,e,q,i⟩:=h;exact{a,b,e,q,aa.ofImm m i}
 | .lst l,v,m,_=>absurd m BP
 | .dct _ l,v,m,_=>absurd m BP
 | .fd _ l,v,m,_=>absurd m BP
 | .fl l,v,m,h=>by
   obtain⟨a,o,b,e,q,i⟩:=h;exact{a,o,b,e,q,aa.ofImm m i}
theorem aa.ofImm:∀{l:List D} {a:List V},D.immL l=true->aa K A H l a->aa K A' H l a
 | [],_,_,h=>h
 | d::l,a,m,h=>by
   have m':d.imm=true/\D.immL l=true:=Gz.mp m;unfold aa at h ⊢;obtain⟨v,r,e,i,j⟩:=h;exact{v,r,e,Is.ofImm m'.1 i,aa.ofImm m'.2 j}
end
def Is.tup{a:Addr}{b:List V}{l:List D}(h:H a=some (.tup b))(i:aa K A H l b):Is K A H (.tup l) (.ref a):=by
 exact⟨a,b,rfl,h,i⟩
def Is.lst{a:Addr}{b:List V}{l:List D}(n:A a)(h:H a=some (.lst b))(i:aa K A H l b):Is K A H (.lst l) (.ref a):=by
 exact⟨a,b,rfl,n,h,i⟩
def Is.int_iff{i:Int}:Is K A H (.int i) v↔v=.int i:=Iff.rfl
def Is.bl_iff{i:Bool}:Is K A H (.bl i) v↔v=.bl i:=Iff.rfl
def Is.str_iff{i:Str}:Is K A H (.str i) v↔v=.str i:=Iff.rfl
def Is.non_iff:Is K A H .non v↔v=.non:=Iff.rfl
def Is.tup_iff:Is K A H (.tup l) v↔∃a b,v=.ref a/\H a=some (.tup b)/\aa K A H l b:=Iff.rfl
def Is.tup_sq(h:Is K A H (.tup l) v):∃a b,v=.ref a/\AS K H a b/\aa K A H l b:=let ⟨a,b,e,s,i⟩:=Is.tup_iff.mp h;{a,b,e,.of s,i}
def Is.lst_iff:Is K A H (.lst l) v↔∃a b,v=.ref a/\A a/\H a=some (.lst b)/\aa K A H l b:=Iff.rfl
def Is.fl_iff:Is K A H (.fl l) v↔∃a o b,v=.ref a/\H a=some (.frz o (.lst b))/\aa K A H l b:=Iff.rfl
def Is.fd_iff:Is K A H (.fd d l) v↔∃(a:Addr) (o:Obj) (b:List V) (c:List (List Al)),v=.ref a/\d=c.map AD/\c.length=b.length/\H a=some (.frz o (.dT (c.zip b)))/\aa K A H l b:=Iff.rfl
def Is.dct_iff:Is K A H (.dct d l) v↔∃a c,v=.ref a/\A a/\aa K A H l c/\
 ((∃b:List Aw,d=b.map Ct/\b.length=c.length/\H a=some (.dK (b.zip c)))\/(∃b:List (List Al),d=D.non::b.map AD/\b.length=c.length/\H a=some (.dT (b.zip c)))):=Iff.rfl
instance D.asL:D->Option (List D)
 | .lst l=>some l
 | .fl l=>some l
 | _=>none
theorem Is.asL(h:Is K A H d v)(e:d.asL=some l):∃a b,v=.ref a/\Rd H a (.lst b)/\aa K A H l b/\∀(g:Addr->Prop) (f:Hp),Bg A g H f->Rd f a (.lst b):=by
 cases d with
 | lst m=>
   cases e;obtain⟨a,b,d,n,c,i⟩:=Is.lst_iff.mp h;exact{a,b,d,.inl c,i,λg f k=>.inl (k.nod a _ n c).2}
 | fl m=>
   cases e;obtain⟨a,o,b,d,c,i⟩:=Is.fl_iff.mp h;exact{a,b,d,.inr ⟨o,c⟩,i,λg f k=>.inr {o,k.sty a _ c (.inr {_,_,rfl})}}
 | _=>cases e
end
structure AG where
 cls:Str
 args:List D
inductive Ar(S α:Type) where
 | ok (a:α) (st:S) | exc (x:AG) (st:S) | bad
variable{S α β γ:Type}
instance Ar.bind(r:Ar S α)(k:α->S->Ar S β):Ar S β:=match r with
 | .ok a st=>k a st
 | .exc x st=>.exc x st
 | .bad=>.bad
def Aa(r:Ar S α)(Q:α->S->Prop)(E:AG->S->Prop):Prop:=match r with
 | .ok a st=>Q a st
 | .exc x st=>E x st
 | .bad=>False
def ae:Aa (r.bind k) Q E↔Aa r (λa b=>Aa (k a b) Q E) E:=by
 cases r<;>rfl
def ak{r:Ar S α}{Q c:α->S->Prop}{E d:AG->S->Prop}(h:Aa r Q E)(f:∀a b,Q a b->c a b)(e:∀x b,E x b->d x b):Aa r c d:=by
 cases r with
 | ok a b=>exact f a b h
 | exc x b=>exact e x b h
 | bad=>exact h.elim
def Au(o:Option α)(st:S):Ar S α:=match o with
 | some a=>.ok a st
 | none=>.bad
def au{o:Option α}{c:S}{Q:α->S->Prop}{E:AG->S->Prop}:Aa (Au o c) Q E↔∃a,o=some a/\Q a c:=by
 cases o with
 | none=>constructor
         ·intro h;exact h.elim
         ·rintro ⟨a,e,_⟩;cases e
 | some a=>constructor
           ·intro h;exact⟨a,rfl,h⟩
           ·rintro ⟨b,e,q⟩;cases e;exact q
@[simp] theorem Ar.bind_ok (a:α) (st:S) (k:α->S->Ar S β):(Ar.ok a st).bind k=k a st:=rfl
structure Wd(S:Type) where
 ok:S->Hp->Prop
 mv:Addr->Prop
 h:V
 stay:∀st H H',ok st H->(∀b o,mv b->H b=some o->H' b=some o)->(∀b o,H b=some o->C8 o->H' b=some o)->ok st H'
 live:∀st H b,ok st H->mv b->∃o,H b=some o/\(∀u,o≠.tup u)/\∀ob u,o≠.frz ob u
instance W0:Wd Unit:={λ_ _=>True,λ_=>False,.non,λ_ _ _ h _ _=>h,λ_ _ _ _ h=>h.elim}
inductive Sl where
 | no | bor (d:D) | own (d:D) | hnd
abbrev Ae:=List Sl
structure Dx{S:Type}(W:Wd S) where
 K:FG
 H0:Hp
 Ex:AG->S->Hp->Prop
 /-- addresses that no tree holds (a comprehension's list while it grows) -/
 av:Addr->Prop
def Ah{S:Type}(W:Wd S)(H H':Hp):Prop:=∀b o,H b=some o->¬W.mv b->H' b=some o
def Ah.refl{S:Type}{W:Wd S}{H:Hp}:Ah W H H:=λ_ _ h _=>h
def Ah.trans{S:Type}{W:Wd S}{H H1 H2:Hp}(a:Ah W H H1)(b:Ah W H1 H2):Ah W H H2:=λc o h n=>b c o (a c o h n) n
def Ah.laid{S:Type}{W:Wd S}{H:Hp}{p:Addr}{o:HO}(h:H p=none):Ah W H (Ag H p o):=λb u e _=>by rw[ah (ay e h)];exact e
def Ci.ext{S:Type}{W:Wd S}{H a:Hp}(h:Ci H a):Ah W H a:=λb o e _=>h b o e
instance Ow(Y:St)(Z:Ae)(b:Addr):Prop:=∃(i:Nat) (d:D),Z[i]?=some (Sl.own d)/\Y[i]?=some (some (V.ref b))
instance Av{S:Type}{W:Wd S}(c:Dx W)(Y:St)(Z:Ae)(b:Addr):Prop:=¬W.mv b/\¬Ow Y Z b/\¬c.av b
instance Top(K:FG)(A:Addr->Prop)(H:Hp)(d:D)(a:Addr):Prop:=match d with
 | .lst l=>∃vs,H a=some (.lst vs)/\aa K A H l vs
 | .dct ks l=>∃vs,aa K A H l vs/\((∃kk:List Aw,ks=kk.map Ct/\kk.length=vs.length/\H a=some (.dK (kk.zip vs)))\/(∃kk:List (List Al),ks=D.non::kk.map AD/\kk.length=vs.length/\H a=some (.dT (kk.zip vs))))
 | _=>False
def Jy{S:Type}{W:Wd S}(c:Dx W)(H:Hp)(A:Addr->Prop)(ov:Option V):Sl->Prop
 | .no=>True
 | .bor d=>∃v,ov=some v/\Is c.K A H d v
 | .own d=>∃a,ov=some (.ref a)/\(¬W.mv a/\¬c.av a)/\c.H0 a=none/\Top c.K A H d a
 | .hnd=>ov=some W.h
structure Ax{S:Type}{W:Wd S}(c:Dx W)(H:Hp)(Y:St)(Z:Ae):Prop where
 len:Y.length=Z.length
 frame:∀b o,c.H0 b=some o->¬W.mv b->H b=some o
 slot:∀(i:Nat) (s:Sl),Z[i]?=some s->Jy c H (Av c Y Z) (Y[i]?).join s
 avl:∀b,c.av b->¬W.mv b/\c.H0 b=none/\∃o,H b=some o/\(∀u,o≠.tup u)/\∀ob u,o≠.frz ob u
 uniq:∀(i j:Nat) (a:Addr) (d e:D),Z[i]?=some (.own d)->Z[j]?=some (.own e)->Y[i]?=some (some (.ref a))->Y[j]?=some (some (.ref a))->i=j
section
variable{S:Type}{W:Wd S}{c:Dx W}{H H':Hp}{Y:St}{Z:Ae}{A A':Addr->Prop}
theorem Top.isTop(n:A a)(h:Top c.K A H d a):Is c.K A H d (.ref a):=by
 cases d with
 | lst l=>obtain⟨b,e,i⟩:=h;exact Is.lst n e i
 | dct d l=>obtain⟨b,i,q⟩:=h;exact Is.dct_iff.mpr ⟨a,b,rfl,n,i,q⟩
 | _=>exact h.elim
theorem Top.there(h:Top c.K A H d a):∃o,H a=some o/\(∀u,o≠.tup u)/\∀a u,o≠.frz a u:=by
 cases d with
 | lst l=>obtain⟨b,e,i⟩:=h;exact{_,e,(λu z=>by cases z),(λa u z=>by cases z)}
 | dct d l=>
   obtain⟨b,i,⟨_,_,_,q⟩ | ⟨_,_,_,q⟩⟩:=h
   ·exact{_,q,(λu z=>by cases z),(λa u z=>by cases z)}
   ·exact{_,q,(λu z=>by cases z),(λa u z=>by cases z)}
 | _=>exact h.elim
theorem Top.mono(k:Bg A A' H H')(e:∀o,H a=some o->H' a=some o)(h:Top c.K A H d a):Top c.K A' H' d a:=by
 cases d with
 | lst l=>obtain⟨a,q,i⟩:=h;exact{a,e _ q,i.mono k}
 | dct b l=>
   obtain⟨a,i,⟨f,d,b,q⟩ | ⟨f,d,b,q⟩⟩:=h
   ·exact{a,i.mono k,.inl {f,d,b,e _ q}}
   ·exact{a,i.mono k,.inr {f,d,b,e _ q}}
 | _=>exact h.elim
def Ax.owOk(R:Ax c H Y Z)(h:Ow Y Z b):¬W.mv b/\c.H0 b=none/\∃o,H b=some o/\(∀u,o≠.tup u)/\∀a u,o≠.frz a u:=by
 obtain⟨i,d,g,j⟩:=h;obtain⟨a,e,n,f,t⟩:=R.slot i _ g;rw[j] at e;have e:some (V.ref b)=some (V.ref a):=e;cases e;exact⟨n.1,f,t.there⟩
def bG(a:∀b o,H b=some o->(∃u,o=.tup u)\/(∃d u,o=.frz d u)->H' b=some o)(d:∀b o,A b->H b=some o->A' b/\H' b=some o):Bg A A' H H':=
 ⟨a,d⟩
def Ah.keepT{d:S}(e:Ah W H H')(i:W.ok d H)(f:∀b,A b->¬W.mv b/\A' b):Bg A A' H H':=
 bG (λb o h t=>e b o h λm=>by
  obtain⟨o',a,j,g⟩:=W.live d H b i m;rw[h] at a;cases a;rcases t with⟨u,z⟩ | ⟨i,u,z⟩
  ·exact j u z
  ·exact g i u z) λb o a h=>{(f b a).2,e b o h (f b a).1}
def Ax.ext{g:S}(R:Ax c H Y Z)(d:W.ok g H)(e:Ah W H H'):Ax c H' Y Z where
 len:=R.len
 frame:=λb o h n=>e b o (R.frame b o h n) n
 avl:=λb h=>let ⟨n,z,o,a,q⟩:=R.avl b h;{n,z,o,e b o a n,q}
 uniq:=R.uniq
 slot:=λi s h=>by
  have k:Bg (Av c Y Z) (Av c Y Z) H H':=e.keepT d λb a=>⟨a.1,a⟩
  have q:=R.slot i s h;cases s with
  | no=>trivial
  | bor d=>obtain⟨v,b,f⟩:=q;exact{v,b,f.mono k}
  | own d=>obtain⟨a,b,n,f,t⟩:=q;exact{a,b,n,f,t.mono k λo z=>e a o z n.1}
  | hnd=>exact q
end
instance D.mut:D->Bool
 | .lst _=>true
 | .dct _ _=>true
 | _=>false
inductive Gr where
 | R | B | F
def BJ{S:Type}{W:Wd S}(c:Dx W)(g:Gr)(Y:St)(Z:Ae)(H H':Hp)(d:D)(v:V):Prop:=match g with
 | .R=>Is c.K 'w' H' d v
 | .B=>Is c.K (Av c Y Z) H' d v
 | .F=>Is c.K (Av c Y Z) H' d v/\∀a,v=.ref a->d.mut=true->H a=none
section
variable{S:Type}{W:Wd S}{c:Dx W}{H H1 H':Hp}{Y:St}{Z:Ae}{d:D}{v:V}{g:Gr}
theorem BJ.toR(h:BJ c g Y Z H H' d v):BJ c .R Y Z H H' d v:=by
 have k:Bg (Av c Y Z) 'w' H' H':={λ_ _ z _=>z,λb o a z=>⟨a.1,z⟩};cases g with
 | R=>exact h
 | B=>exact Is.mono k h
 | F=>exact Is.mono k h.1
def BJ.toB(h:BJ c .F Y Z H H' d v):BJ c .B Y Z H H' d v:=h.1
theorem BJ.imm(m:d.imm=true)(h:BJ c .R Y Z H H' d v)(g:Gr):BJ c g Y Z H H' d v:=by
 cases g with
 | R=>exact h
 | B=>exact Is.ofImm m h
 | F=>refine{Is.ofImm m h,λa e z=>?_}
      cases d<;>first|exact nomatch (show false=true from z)|exact nomatch (show false=true from m)
end
abbrev Fn(S:Type):=Ae->S->Ar S D
instance tD{S:Type}{W:Wd S}(c:Dx W)(g:Gr)(f:Fn S):TE:=λY H Q=>∃Z st,Ax c H Y Z/\W.ok st H/\
 Aa (f Z st) (λd st'=>∀v H',Ah W H H'->W.ok st' H'->BJ c g Y Z H H' d v->Q v H') λx st'=>∀H',Ah W H H'->W.ok st' H'->c.Ex x st' H'
instance DE(X:Cx){S:Type}{W:Wd S}(c:Dx W)(g:Gr)(e:Expr)(f:Fn S):Prop:=PE X e (tD c g f)
def PE.imp{X:Cx}{e:Expr}{t a:TE}(h:PE X e t)(i:∀Y H Q,a Y H Q->t Y H Q):PE X e a:=λb s Y H Q I q=>h b s Y H Q I (i Y H Q q)
def PT.imp{X:Cx}{e:Expr}{t a:TT}(h:PT X e t)(i:∀Y H Q,a Y H Q->t Y H Q):PT X e a:=λb s Y H Q I q=>h b s Y H Q I (i Y H Q q)
def PS.imp{X:Cx}{e:Stmt}{t a:TS}(h:PS X e t)(i:∀D Y H,a D Y H->t D Y H):PS X e a:=λb s Y H D I q=>h b s Y H D I (i D Y H q)
def CP.imp{X:Cx}{e:List Stmt}{t a:TS}(h:CP X e t)(i:∀D Y H,a D Y H->t D Y H):CP X e a:=λb s Y H D I q=>h b s Y H D I (i D Y H q)
section
variable{S:Type}
end
end L2
namespace L2
instance Go{S:Type}{W:Wd S}(c:Dx W)(g:Gr)(Y:St)(f:Fn S)(H:Hp)(Q:VK)(Z:Ae)(st:S):Prop:=
 Aa (f Z st) (λd st'=>∀v H',Ah W H H'->W.ok st' H'->BJ c g Y Z H H' d v->Q v H') λx st'=>∀H',Ah W H H'->W.ok st' H'->c.Ex x st' H'
section
variable{S:Type}{W:Wd S}{c:Dx W}{H H1 H':Hp}{Y:St}{Z:Ae}{d:D}{v:V}{g g':Gr}{st st1:S}
theorem Ah.none(e:Ah W H H1)(f:W.ok st H1){a:Addr}(h:H1 a=none):H a=none:=by
 cases q:H a with
 | none=>rfl
 | some o=>
   have n:¬W.mv a:=λm=>by obtain⟨o',b,_⟩:=W.live st H1 a f m;rw[h] at b;cases b
   rw[e a o q n] at h;cases h
theorem BJ.back(e:Ah W H H1)(b:W.ok st H1)(h:BJ c g Y Z H1 H' d v):BJ c g Y Z H H' d v:=by
 cases g with
 | R=>exact h
 | B=>exact h
 | F=>exact{h.1,λa f m=>e.none b (h.2 a f m)}
def BJ.ext(e:Ah W H' H1)(a:W.ok st H')(h:BJ c .R Y Z H H' d v):BJ c .R Y Z H H1 d v:=Is.mono (e.keepT a λb n=>⟨n,n⟩) h
def Is.ext{A:Addr->Prop}(e:Ah W H' H1)(a:W.ok st H')(f:∀b,A b->¬W.mv b)(h:Is c.K A H' d v):Is c.K A H1 d v:=Is.mono (e.keepT a λb n=>{f b n,n}) h
def aa.ext{A:Addr->Prop}{l:List D}{a:List V}(e:Ah W H' H1)(i:W.ok st H')(f:∀b,A b->¬W.mv b)(h:aa c.K A H' l a):aa c.K A H1 l a:=aa.mono (e.keepT i λb n=>{f b n,n}) h
def Go.from{f:Fn S}{Q:VK}(e:Ah W H H1)(i:W.ok st1 H1)(h:Go c g Y f H Q Z st):Go c g Y f H1 Q Z st:=
 ak h (λd f q v H' a b z=>q v H' (e.trans a) b (z.back e i)) λx f q H' a b=>q H' (e.trans a) b
def Go.bind{f:Fn S}{k:D->Fn S}{Q:VK}(R:Ax c H Y Z)(a:W.ok st H)(h:Go c g Y (λZ st=>(f Z st).bind λd st1=>k d Z st1) H Q Z st) :
 tD c g' f Y H λv H1=>∃d st1,Ax c H1 Y Z/\W.ok st1 H1/\Ah W H H1/\BJ c g' Y Z H H1 d v/\Go c g Y (k d) H1 Q Z st1:=by
 refine{Z,st,R,a,?_};have b:=ae.mp h;refine ak b (λd st1 q v H1 e f z=>?_) λx st1 q=>q
 exact{d,st1,R.ext a e,f,e,z,ak q (λd' h q v' H' a b y=>q v' H' (e.trans a) b (y.back e f)) λx h q H' a b=>q H' (e.trans a) b}
def Go.done(h:Go c g Y (λ_ st=>Au o st) H Q Z st)(a:W.ok st H):∃d,o=some d/\∀v H',Ah W H H'->W.ok st H'->BJ c g Y Z H H' d v->Q v H':=by
 obtain⟨d,e,q⟩:=au.mp h;exact⟨d,e,q⟩
def AB{S:Type}{W:Wd S}(c:Dx W)(H H':Hp)(d:D)(v:V):Prop:=Is c.K (λb=>¬W.mv b/\H b=none) H' d v
theorem AB.valF(R:Ax c H Y Z)(h:AB c H H' d v):BJ c .F Y Z H H' d v:=by
 have k:Bg (λb=>¬W.mv b/\H b=Option.none) (Av c Y Z) H' H':={λ_ _ z _=>z,λb o a z=>{{a.1,(λw=>by
  obtain⟨_,_,o',e,_⟩:=R.owOk w;rw[a.2] at e;cases e),λw=>by
  obtain⟨_,_,o',e,_⟩:=R.avl b w;rw[a.2] at e;cases e},z}}
 refine{Is.mono k h,λa e m=>?_};subst e;cases d with
 | lst l=>obtain⟨b,a,e,n,_⟩:=Is.lst_iff.mp h;cases e;exact n.2
 | dct f l=>obtain⟨b,a,e,n,_⟩:=Is.dct_iff.mp h;cases e;exact n.2
 | _=>exact nomatch (show false=true from m)
theorem AB.val(R:Ax c H Y Z)(h:AB c H H' d v)(g:Gr):BJ c g Y Z H H' d v:=by
 cases g with
 | R=>exact(h.valF R).toR
 | B=>exact(h.valF R).toB
 | F=>exact h.valF R
def AB.imm(m:d.imm=true)(h:Is c.K A H' d v):AB c H H' d v:=Is.ofImm m h
def aL(a:W.ok st H)(h:H p=none):W.ok st (Ag H p o):=W.stay st H _ a (λb u _ e=>by rw[ah (ay e h)];exact e) λb u e _=>by rw[ah (ay e h)];exact e
def bH{p:Addr}(b:W.ok st H)(h:H p=none):¬W.mv p:=λm=>by
 obtain⟨o',a,_⟩:=W.live st H p b m;rw[h] at a;cases a
def AB.tup{p:Addr}{l:List D}{a:List V}{A:Addr->Prop}(e:W.ok st H)(h:H p=none)(f:∀b,A b->¬W.mv b)(m:D.immL l=true)(i:aa c.K A H l a):AB c H (Ag H p (.tup a)) (.tup l) (.ref p):=
 Is.tup aw (aa.ofImm m (i.ext (Ah.laid h) e f))
def AB.lst{p:Addr}{l:List D}{a:List V}{A:Addr->Prop}(e:W.ok st H)(h:H p=none)(f:∀b,A b->¬W.mv b)(m:D.immL l=true)(i:aa c.K A H l a):AB c H (Ag H p (.lst a)) (.lst l) (.ref p):=
 Is.lst {bH e h,h} aw (aa.ofImm m (i.ext (Ah.laid h) e f))
end
section
variable{X:Cx}{S:Type}{W:Wd S}{c:Dx W}{g:Gr}
instance fC(S:Type)(d:D):Fn S:=λ_ st=>.ok d st
def pY{i j pos}:DE X c g (.Constant (.int i) j pos) (fC S (.int i)):=aT.imp λY H Q ⟨Z,b,R,a,w⟩=>w _ _ Ah.refl a (AB.val R (show AB c H H (.int _) (.int _) from Is.int_iff.mpr rfl) g)
def pZ{i j pos}:DE X c g (.Constant (.bool i) j pos) (fC S (.bl i)):=nQ.imp λY H Q ⟨Z,b,R,a,w⟩=>w _ _ Ah.refl a (AB.val R (show AB c H H (.bl _) (.bl _) from Is.bl_iff.mpr rfl) g)
def p9{j pos}:DE X c g (.Constant .none j pos) (fC S .non):=nR.imp λY H Q ⟨Z,b,R,a,w⟩=>w _ _ Ah.refl a (AB.val R (show AB c H H .non .non from Is.non_iff.mpr rfl) g)
def qb{x j pos}:DE X c g (.Constant (.str x) j pos) (fC S (.str x)):=bX.imp λY H Q ⟨Z,b,R,a,w⟩=>w _ _ Ah.refl a (AB.val R (show AB c H H (.str _) (.str _) from Is.str_iff.mpr rfl) g)
instance rd(Z:Ae)(i:Nat):Option D:=match Z[i]? with
 | some (.bor d)=>some d
 | some (.own d)=>some d
 | _=>none
instance kp(Z:Ae)(i:Nat):Option D:=match Z[i]? with
 | some (.bor d)=>some d
 | _=>none
instance im(o:Option D):Option D:=o.bind λd=>if d.imm=true then some d else none
instance fV(S:Type)(i:Nat):Fn S:=λZ st=>Au (rd Z i) st
instance fVk(S:Type)(i:Nat):Fn S:=λZ st=>Au (kp Z i) st
theorem Ax.rd{H:Hp}{Y:St}{Z:Ae}{i:Nat}{d:D}(R:Ax c H Y Z)(h:L2.rd Z i=some d):∃v,Y[i]?=some (some v)/\Is c.K 'w' H d v:=by
 delta L2.rd at h;have j:∀{o:Option (Option V)} {v:V},o.join=some v->o=some (some v):=λ{o v} e=>by cases o with
  | none=>cases e
  | some a=>rw[show a=some v from e]
 cases q:Z[i]? with
 | none=>rw[q] at h;cases h
 | some s=>
   rw[q] at h;have z:=R.slot i s q;cases s with
   | no=>cases h
   | hnd=>cases h
   | bor e=>
     cases h;obtain⟨v,d,b⟩:=z;exact{v,j d,b.mono {λ_ _ z _=>z,λb o a z=>⟨a.1,z⟩}}
   | own e=>
     cases h;obtain⟨a,d,n,f,t⟩:=z;exact{_,j d,(t.mono (A':=λb=>¬W.mv b) {λ_ _ z _=>z,λb o a z=>⟨a.1,z⟩} λo z=>z).isTop n.1}
theorem Ax.kp{H:Hp}{Y:St}{Z:Ae}{i:Nat}{d:D}(R:Ax c H Y Z)(h:L2.kp Z i=some d):∃v,Y[i]?=some (some v)/\Is c.K (Av c Y Z) H d v:=by
 delta L2.kp at h;cases q:Z[i]? with
 | none=>rw[q] at h;cases h
 | some s=>
   rw[q] at h;have z:=R.slot i s q;cases s with
   | no=>cases h
   | hnd=>cases h
   | own e=>cases h
   | bor e=>
     cases h;obtain⟨v,b,a⟩:=z;refine{v,?_,a};cases w:Y[i]? with
     | none=>rw[w] at b;cases b
     | some a=>rw[w] at b;rw[show a=some v from b]
def qc{i:Nat}{x:Str}{pos:Pos}(h:PE X (.Name x pos) (B1 i)):DE X c .R (.Name x pos) (fV S i):=h.imp λY H Q hI3=>by
 obtain⟨Z,a,R,f,w⟩:=hI3;obtain⟨d,e,q⟩:=au.mp w;obtain⟨v,a,b⟩:=R.rd e;exact{v,a,q v H Ah.refl f b}
def wl{i:Nat}{x:Str}{pos:Pos}(h:PE X (.Name x pos) (B1 i)):DE X c .B (.Name x pos) (fVk S i):=h.imp λY H Q hI4=>by
 obtain⟨Z,a,R,f,w⟩:=hI4;obtain⟨d,e,q⟩:=au.mp w;obtain⟨v,a,b⟩:=R.kp e;exact{v,a,q v H Ah.refl f b}
instance fI(S:Type)(f:Fn S):Fn S:=λZ st=>(f Z st).bind λd st1=>if d.imm=true then .ok d st1 else .bad
def Bx{S:Type}{W:Wd S}(c:Dx W)(r:R2)(o:D->D->Option D):Prop:=∀d1 d2 v1 v2 H (st:S) d Q,W.ok st H->Is c.K 'w' H d1 v1->Is c.K 'w' H d2 v2->o d1 d2=some d->
 (∀v H',Ah W H H'->W.ok st H'->AB c H H' d v->Q v H')->r v1 v2 H Q
instance f2(S:Type)(o:D->D->Option D)(f1 f2:Fn S):Fn S:=λZ st=>(f1 Z st).bind λd1 st1=>(f2 Z st1).bind λd2 st2=>Au (o d1 d2) st2
def aU(h:tD c g f Y H Q)(i:∀v e,Q v e->Q' v e):tD c g f Y H Q':=by
 obtain⟨Z,a,R,b,w⟩:=h;exact{Z,a,R,b,ak w (λd f q v e a b z=>i v e (q v e a b z)) λx f q=>q}
def dN(s:Bx c r o)(h:tD c g (f2 S o fa fb) Y H Q):tOp r (tD c ga fa) (tD c gb fb) Y H Q:=by
 obtain⟨Z,d,R,e,w⟩:=h;have w:Go c g Y (λZ d=>(fa Z d).bind λj b=>(λZ b=>(fb Z b).bind λh a=>Au (o j h) a) Z b) H Q Z d:=w;refine aU (Go.bind (g':=ga) R e w) λr H1 hI109=>?_
 obtain⟨j,b,e,i,l,p,d⟩:=hI109;refine aU (Go.bind (g':=gb) (f:=fb) (k:=λh _ a=>Au (o j h) a) e i d) λo H2 hI110=>?_
 obtain⟨h,a,R2,b,n,m,l⟩:=hI110;obtain⟨d,e,q⟩:=Go.done l b;exact s j h r o H2 a d Q b (p.toR.ext n i) m.toR e λv d a b n=>q v d a b (n.val R2 g)
def jB{f:Operator}{r:R2}{o:D->D->Option D}{a b:Expr}{pos:Pos}{d e:Fn S}{ga gb:Gr}(h:A8 X (binaryOp f) r)(l:Bx c r o)(j:DE X c ga a d)(i:DE X c gb b e):DE X c g (.BinOp a f b pos) (f2 S o d e):=
 (aR h j i).imp λY H Q h=>dN l h
def wm(d:A8 X (compareOp op) r)(i:Bx c r o)(h:DE X c ga a fa)(f:DE X c gb b fb)(e:behindInMarks op b=false):DE X c g (.Compare a [op] [b] pos) (f2 S o fa fb):=
 (oy d h f e).imp λY H Q h=>dN i h
def jC{r:R2}{o:D->D->Option D}{a b:Expr}{pos:Pos}{d e:Fn S}{ga gb:Gr}(j:IxR X r)(l:Bx c r o)(h:DE X c ga a d)(f:DE X c gb b e)(i:GD b):DE X c g (.Subscript a b pos) (f2 S o d e):=
 (gf j h f i).imp λY H Q h=>dN l h
abbrev A9(S:Type):=Ae->S->Ar S Bool
instance tDT{S:Type}{W:Wd S}(c:Dx W)(f:A9 S):TT:=λY H Q=>∃Z st,Ax c H Y Z/\W.ok st H/\
 Aa (f Z st) (λb st'=>∀H',Ah W H H'->W.ok st' H'->Q b H') λx st'=>∀H',Ah W H H'->W.ok st' H'->c.Ex x st' H'
instance DT(X:Cx){S:Type}{W:Wd S}(c:Dx W)(e:Expr)(f:A9 S):Prop:=PT X e (tDT c f)
instance D.bool?:D->Option Bool
 | .bl b=>some b
 | _=>none
instance fB(S:Type)(f:Fn S):A9 S:=λZ st=>(f Z st).bind λd st1=>Au d.bool? st1
def eU(h:tDT c (fB S f) Y H Q):tB (tD c g f) Y H Q:=by
 obtain⟨Z,a,R,b,w⟩:=h;refine{Z,a,R,b,ak (ae.mp w) (λd a q v H1 e f z=>?_) λx a q=>q};obtain⟨b,h,q⟩:=au.mp q;cases d with
 | bl k=>
   cases h;have z':Is c.K 'w' H1 (.bl b) v:=z.toR;exact{_,Is.bl_iff.mp z',q H1 e f}
 | _=>cases h
def wn{e:Expr}{f:Fn S}(h:DE X c g e f)(b:autoParam (∀a,isTrue e X.env a=(do let v <-a;standAt e.pos;holding [v] (truthy v))) Nb._auto_1):DT X c e (fB S f):=
 (nU h b).imp λY H Q q=>eU q
def wo{e:CmpOp}{r:R2}{o:D->D->Option D}{a b:Expr}{pos:Pos}{f d:Fn S}{ga gb:Gr}(j:A8 X (compareOp e) r)(i:Bx c r o)(h:DE X c ga a f)(m:DE X c gb b d)(l:behindInMarks e b=false):DT X c (.Compare a [e] [b] pos) (fB S (f2 S o f d)):=
 (f6 j h m l).imp λY H Q q=>by
  have a:tB (tD c .R (f2 S o f d)) Y H Q:=eU q;exact dN (ga:=ga) (gb:=gb) i a
def H9(S:Type)(f1 f2:A9 S):A9 S:=λZ st=>(f1 Z st).bind λb st1=>if b=true then f2 Z st1 else .ok false st1
instance fOr(S:Type)(f1 f2:A9 S):A9 S:=λZ st=>(f1 Z st).bind λb st1=>if b=true then .ok true st1 else f2 Z st1
def Ia(S:Type)(f1:A9 S):A9 S:=λZ st=>(f1 Z st).bind λb st1=>.ok (!b) st1
instance DW(X:Cx){S:Type}{W:Wd S}(c:Dx W)(e:Expr)(f:A9 S):Prop:=PW X e (tDT c f)
def PW.imp{X:Cx}{e:Expr}{t a:TT}(h:PW X e t)(i:∀Y H Q,a Y H Q->t Y H Q):PW X e a:=λw b s Y H Q I q=>h w b s Y H Q I (i Y H Q q)
def DW.dt{e:Expr}{f:A9 S}(h:DW X c e f):DT X c e f:=PW.pt h
def wp{a:Expr}{pos:Pos}{f:A9 S}(h:DT X c a f):DW X c (.BoolOp .And [a] pos) f:=pw_and1 h
def wq{a:Expr}{pos:Pos}{f:A9 S}(h:DT X c a f):DW X c (.BoolOp .Or [a] pos) f:=pw_or1 h
def wt{a b:Expr}{d:List Expr}{pos:Pos}{e f2:A9 S}(f:DT X c a e)(h:DW X c (.BoolOp .And (b::d) pos) f2):DW X c (.BoolOp .And (a::b::d) pos) (H9 S e f2):=
 (pw_and f h).imp λY H Q hI5=>by
  obtain⟨Z,a,R,h,w⟩:=hI5;refine{Z,a,R,h,ak (ae.mp w) (λb a q H1 e d=>?_) λx a q=>q};cases b with
  | true=>exact{Z,a,R.ext h e,d,ak q (λb f q H2 a=>q H2 (e.trans a)) λx f q H2 a=>q H2 (e.trans a)}
  | false=>exact q H1 e d
def wu{a b:Expr}{d:List Expr}{pos:Pos}{e f2:A9 S}(f:DT X c a e)(h:DW X c (.BoolOp .Or (b::d) pos) f2):DW X c (.BoolOp .Or (a::b::d) pos) (fOr S e f2):=
 (pw_or f h).imp λY H Q hI6=>by
  obtain⟨Z,a,R,h,w⟩:=hI6;refine{Z,a,R,h,ak (ae.mp w) (λb a q H1 e d=>?_) λx a q=>q};cases b with
  | false=>exact{Z,a,R.ext h e,d,ak q (λb f q H2 a=>q H2 (e.trans a)) λx f q H2 a=>q H2 (e.trans a)}
  | true=>exact q H1 e d
def wv{a:Expr}{pos:Pos}{b:A9 S}(d:DT X c a b):DT X c (.UnaryOp .Not a pos) (Ia S b):=
 (nV d).imp λY H Q ⟨Z,a,R,d,w⟩=>{Z,a,R,d,ak (ae.mp w) (λb a q H1 e d=>q H1 e d) λx a q=>q}
abbrev Ba(S:Type):=Ae->S->Ar S (List D)
instance tDA{S:Type}{W:Wd S}(c:Dx W)(f:Ba S):TA:=λY H Q=>∃Z st,Ax c H Y Z/\W.ok st H/\
 Aa (f Z st) (λl st'=>∀vs H',Ah W H H'->W.ok st' H'->aa c.K 'w' H' l vs->Q vs H') λx st'=>∀H',Ah W H H'->W.ok st' H'->c.Ex x st' H'
instance DA(X:Cx){S:Type}{W:Wd S}(c:Dx W)(es:List Expr)(f:Ba S):Prop:=PA X es (tDA c f)
def PA.imp(h:PA X e t)(i:∀Y H Q,t' Y H Q->t Y H Q):PA X e t':=λp a s Y H Q I q=>h p a s Y H Q I (i Y H Q q)
def Gb(S:Type):Ba S:=λ_ st=>.ok [] st
def Cu(S:Type)(f:Fn S)(r:Ba S):Ba S:=λZ st=>(f Z st).bind λd st1=>(r Z st1).bind λl st2=>.ok (d::l) st2
def qd:DA X c [] (Gb S):=bt.imp λY H Q ⟨Z,b,R,a,w⟩=>w [] H Ah.refl a (aa.nil.mpr rfl)
def ba{e:Expr}{es:List Expr}{f:Fn S}{r:Ba S}(h:DE X c g e f)(b:DA X c es r)(a:autoParam 's' uR):DA X c (e::es) (Cu S f r):=
 (aX h b a).imp λY H Q hI7=>by
  obtain⟨Z,a,R,f,w⟩:=hI7;refine{Z,a,R,f,ak (ae.mp w) (λd a q v H1 e b z=>?_) λx a q=>q};refine{Z,a,R.ext f e,b,ak (ae.mp q) (λl f q h H2 d a i=>?_) λx f q H2 d a=>q H2 (e.trans d) a};exact q (v::h) H2 (e.trans d) a (aa.cons.mpr {v,h,rfl,z.toR.ext d b,i})
instance fA(S:Type)(o:List D->Option D)(f:Ba S):Fn S:=λZ st=>(f Z st).bind λl st1=>Au (o l) st1
def Ck{S:Type}{W:Wd S}(c:Dx W)(r:List V->Hp->VK->Prop)(o:List D->Option D):Prop:=∀l vs H (st:S) d Q,W.ok st H->aa c.K 'w' H l vs->o l=some d->
 (∀v H',Ah W H H'->W.ok st H'->AB c H H' d v->Q v H')->r vs H Q
def eV(b:Ck c r o)(h:tD c g (fA S o f) Y H Q):tDA c f Y H λi H1=>r i H1 Q:=by
 obtain⟨Z,a,R,j,w⟩:=h;refine{Z,a,R,j,ak (ae.mp w) (λl a q i H1 e f z=>?_) λx a q=>q};obtain⟨d,h,q⟩:=au.mp q;exact b l i H1 a d Q f z h λv l a b n=>q v l (e.trans a) b ((n.val (R.ext j e) g).back e f)
def B3(l:List D):Option D:=if D.immL l=true/\l.length<=sizeLine then some (.tup l) else none
def DU(l:List D):Option D:=if D.immL l=true/\l.length<=sizeLine then some (.lst l) else none
open H in
def qe:Ck c (λb H1 Q=>b.length<=sizeLine/\∀p,H1 p=none->Q (.ref p) (Ag H1 p (.tup b))) B3:=by
 intro l h H a d Q f z e q;delta B3 at e;split at e
 ·rename_i h
  cases e;exact{by rw[<-z.length];exact h.2,λp a=>q _ _ (Ah.laid a) (aL f a) (AB.tup f a (λ_ n=>n) h.1 z)}
 ·cases e
open H in
def qf:Ck c (λb H1 Q=>b.length<=sizeLine/\∀p,H1 p=none->Q (.ref p) (Ag H1 p (.lst b))) DU:=by
 intro l h H a d Q f z e q;delta DU at e;split at e
 ·rename_i h
  cases e;exact{by rw[<-z.length];exact h.2,λp a=>q _ _ (Ah.laid a) (aL f a) (AB.lst f a (λ_ n=>n) h.1 z)}
 ·cases e
def qg{es:List Expr}{x1}{pos:Pos}{f:Ba S}(h:DA X c es f):DE X c g (.Tuple es x1 pos) (fA S B3 f):=(iX h).imp λY H Q q=>eV (g:=g) qe q
def qh{es:List Expr}{pos:Pos}{f:Ba S}(h:DA X c es f):DE X c g (.List es pos) (fA S DU f):=(f8 h).imp λY H Q q=>eV (g:=g) qf q
def jD{id:String}{x:Str}(h:PE X (.Call (.Name x p) (e::es) [] pos) (tCB r t))(a:t=tDA c f)(b:Ck c r o):DE X c g (.Call (.Name x p) (e::es) [] pos) (fA S o f):=
 h.imp λY H Q q=>by rw[a];exact eV (g:=g) b q
instance sp0(K:FG)(F:List D->Ar Unit D):Sp:=λvs H Q _=>∃l,aa K (λ_=>True) H l vs/\Aa (F l) (λd _=>∀v H',Ci H H'->Is K (λb=>H b=none) H' d v->Q v H') λ_ _=>False
instance spS{S:Type}(W:Wd S)(K:FG)(F:List D->S->Ar S D):Sp:=λvs H Q _=>∃l us st,vs=W.h::us/\aa K 'w' H l us/\W.ok st H/\
 Aa (F l st) (λd st'=>∀v H',Ah W H H'->W.ok st' H'->Is K (λb=>¬W.mv b/\H b=none) H' d v->Q v H') λ_ _=>False
def GF(S:Type)(F:List D->Ar Unit D)(f:Ba S):Fn S:=λZ st=>(f Z st).bind λl st1=>match F l with
 | .ok d _=>.ok d st1
 | _=>.bad
def qk(h:tD c g (GF S F f) Y H Q):Hh (sp0 c.K F) [] E (tDA c f) Y H Q:=by
 obtain⟨Z,st,R,ok,w⟩:=h;refine{Z,st,R,ok,ak (ae.mp w) (λl st1 q vs H1 e ok1 z=>?_) λx st1 q=>q};show sp0 c.K F (vs++[]) H1 Q E;rw[Cp];refine{l,aa.mono (A:=λb=>¬W.mv b) {λ_ _ z _=>z,λb o a z=>⟨trivial,z⟩} z,?_};cases q':F l with
 | ok d u=>
   rw[q'] at q;intro v H' s n;have okH:W.ok st1 H':=W.stay st1 H1 H' ok1 (λb o _ hb=>s b o hb) λb o hb _=>s b o hb
   have n':AB c H1 H' d v:=Is.mono (A:=λb=>H1 b=none) {λ_ _ z _=>z,λb o a z=>{{bH ok1 a,a},z}} n;exact q v H' (e.trans s.ext) okH ((n'.val (R.ext ok e) g).back e ok1)
 | exc x u=>rw[q'] at q;exact q.elim
 | bad=>rw[q'] at q;exact q.elim
def GG(S:Type)(F:List D->S->Ar S D)(i:Nat)(f:Ba S):Fn S:=λZ st=>match Z[i]? with
 | some .hnd=>(f Z st).bind λl st1=>match F l st1 with
   | .ok d st2=>.ok d st2
   | _=>.bad
 | _=>.bad
def qm{i:Nat}(h:tD c g (GG S F i f) Y H Q):Hh (spS W c.K F) [] E (FM (B1 i) (tDA c f)) Y H Q:=by
 obtain⟨Z,st,R,ok,w⟩:=h;delta GG at w;cases hi:Z[i]? with
 | none=>rw[hi] at w;exact w.elim
 | some s=>
   rw[hi] at w;have zs:=R.slot i s hi;cases s with
   | no=>exact w.elim
   | bor d=>exact w.elim
   | own d=>exact w.elim
   | hnd=>
     have zs:(Y[i]?).join=some W.h:=zs;have ei:Y[i]?=some (some W.h):=by
      cases q:Y[i]? with
      | none=>rw[q] at zs;cases zs
      | some a=>rw[q] at zs;rw[show a=some W.h from zs]
     refine{W.h,ei,Z,st,R,ok,ak (ae.mp w) (λl st1 q vs H1 e ok1 z=>?_) λx st1 q=>q};show spS W c.K F ((W.h::vs)++[]) H1 Q E;rw[Cp];refine{l,vs,st1,rfl,z,ok1,?_};cases q':F l st1 with
     | ok d st2=>
       rw[q'] at q;intro v H' s okH n;exact q v H' (e.trans s) okH ((AB.val (R.ext ok e) n g).back e ok1)
     | exc x u=>rw[q'] at q;exact q.elim
     | bad=>rw[q'] at q;exact q.elim
end
inductive Fl where
 | nx (Z:Ae) | rt (d:D) | bk (Z:Ae) | ct (Z:Ae)
abbrev Ay(S:Type):=Ae->S->Ar S Fl
structure Bj{S:Type}{W:Wd S}(c:Dx W)(H:Hp)(Y:St)(Z:Ae)(H':Hp)(Y':St)(Z':Ae):Prop where
 keep:∀b o,H b=some o->¬W.mv b->¬Ow Y Z b->H' b=some o
 own:∀b o,H b=some o->¬W.mv b->Ow Y' Z' b->Ow Y Z b
instance F0{S:Type}{W:Wd S}(c:Dx W)(H':Hp):Prop:=∀b o,c.H0 b=some o->¬W.mv b->H' b=some o
instance Nx{S:Type}{W:Wd S}(c:Dx W)(Q:St->Hp->Prop)(Y:St)(Z:Ae)(H:Hp)(Z':Ae)(st':S):Prop:=∀Y' H',Bj c H Y Z H' Y' Z'->W.ok st' H'->Ax c H' Y' Z'->Q Y' H'
instance Rt{S:Type}{W:Wd S}(c:Dx W)(Q:VK)(d:D)(st':S):Prop:=∀v H',F0 c H'->W.ok st' H'->Is c.K (λb=>¬W.mv b/\c.H0 b=none) H' d v->Q v H'
def Dj{S:Type}{W:Wd S}(c:Dx W)(D:DQ)(Y:St)(Z:Ae)(H:Hp)(fl:Fl)(st':S):Prop:=match fl with
 | .nx Z'=>Nx c D.nx Y Z H Z' st'
 | .bk Z'=>Nx c D.bk Y Z H Z' st'
 | .ct Z'=>Nx c D.ct Y Z H Z' st'
 | .rt d=>Rt c D.rt d st'
def D3{S:Type}{W:Wd S}(c:Dx W)(x:AG)(st':S):Prop:=∀H',F0 c H'->W.ok st' H'->c.Ex x st' H'
instance tS{S:Type}{W:Wd S}(c:Dx W)(F:Ay S):TS:=λD Y H=>∃Z st,Ax c H Y Z/\W.ok st H/\Aa (F Z st) (Dj c D Y Z H) (D3 c)
instance DS(X:Cx){S:Type}{W:Wd S}(c:Dx W)(s:Stmt)(F:Ay S):Prop:=PS X s (tS c F)
def Ce(X:Cx){S:Type}{W:Wd S}(c:Dx W)(s:List Stmt)(F:Ay S):Prop:=CP X s (tS c F)
section
variable{S:Type}{W:Wd S}{c:Dx W}{H H1 H2 H':Hp}{Y Y1 Y2 Y':St}{Z Z1 Z2 Z':Ae}{st st1:S}
def Bj.refl:Bj c H Y Z H Y Z:={λ_ _ h _ _=>h,λ_ _ _ _ h=>h}
def Bj.trans(a:Bj c H Y Z H1 Y1 Z1)(b:Bj c H1 Y1 Z1 H2 Y2 Z2):Bj c H Y Z H2 Y2 Z2 where
 keep:=λx o h m w=>b.keep x o (a.keep x o h m w) m λd=>w (a.own x o h m d)
 own:=λx o h m w=>by
  by_cases d:Ow Y Z x
  ·exact d
  ·exact a.own x o h m (b.own x o (a.keep x o h m d) m w)
def Ah.frm(e:Ah W H H'):Bj c H Y Z H' Y Z:={λb o h m _=>e b o h m,λ_ _ _ _ h=>h}
def Ah.f0(R:Ax c H Y Z)(e:Ah W H H'):F0 c H':=λb o h n=>e b o (R.frame b o h n) n
def Nx.from{Q:St->Hp->Prop}(h:Nx c Q Y Z H Z' st)(f:Bj c H Y Z H1 Y1 Z1):Nx c Q Y1 Z1 H1 Z' st:=λY' H' g a R=>h Y' H' (f.trans g) a R
theorem Dj.from{D:DQ}{a:Fl}(h:Dj c D Y Z H a st)(f:Bj c H Y Z H1 Y1 Z1):Dj c D Y1 Z1 H1 a st:=by
 cases a with
 | nx r=>exact Nx.from h f
 | bk r=>exact Nx.from h f
 | ct r=>exact Nx.from h f
 | rt d=>exact h
def Bj.keepT(R:Ax c H Y Z)(e:W.ok st H)(f:Bj c H Y Z H' Y' Z'):Bg (Av c Y Z) (Av c Y' Z') H H':=
 bG (λb o h t=>f.keep b o h (λm=>by
  obtain⟨o',a,g,d⟩:=W.live st H b e m;rw[h] at a;cases a;rcases t with⟨u,z⟩ | ⟨e,u,z⟩
  ·exact g u z
  ·exact d e u z) λw=>by
  obtain⟨_,_,o',a,g,d⟩:=R.owOk w;rw[h] at a;cases a;rcases t with⟨u,z⟩ | ⟨e,u,z⟩
  ·exact g u z
  ·exact d e u z) λb o a h=>{{a.1,λw=>a.2.1 (f.own b o h a.1 w),a.2.2},f.keep b o h a.1 a.2.1}
def cr{g:Gr}{f:Fn S}{k:D->Ay S}{D:DQ}(h:tS c (λZ st=>(f Z st).bind λd st1=>k d Z st1) D Y H) :
 tD c g f Y H λv H1=>∃Z d a st1,Ax c H Y Z/\W.ok a H/\Ax c H1 Y Z/\W.ok st1 H1/\Ah W H H1/\BJ c g Y Z H H1 d v/\Aa (k d Z st1) (Dj c D Y Z H) (D3 c):=by
 obtain⟨Z,st,R,b,w⟩:=h;refine{Z,st,R,b,ak (ae.mp w) (λd st1 q v H1 e a z=>?_) λx st1 q H1 e a=>q H1 (e.f0 R) a};exact{Z,d,st,st1,R,b,R.ext b e,a,e,z,q}
def qn{f:A9 S}{k:Bool->Ay S}{D:DQ}(h:tS c (λZ st=>(f Z st).bind λd st1=>k d Z st1) D Y H) :
 tDT c f Y H λb H1=>∃Z st1,Ax c H1 Y Z/\W.ok st1 H1/\Aa (k b Z st1) (Dj c D Y Z H1) (D3 c):=by
 obtain⟨Z,st,R,f,w⟩:=h;refine{Z,st,R,f,ak (ae.mp w) (λd st1 q H1 e a=>?_) λx st1 q H1 e a=>q H1 (e.f0 R) a};exact{Z,st1,R.ext f e,a,ak q (λd b q=>q.from e.frm) λx b q=>q}
end
section
variable{X:Cx}{S:Type}{W:Wd S}{c:Dx W}
def Jz(S:Type):Ay S:=λZ st=>.ok (.nx Z) st
def E7(S:Type)(F G:Ay S):Ay S:=λZ st=>(F Z st).bind λfl st1=>match fl with
 | .nx Z1=>G Z1 st1
 | .rt d=>.ok (.rt d) st1
 | .bk r=>.ok (.bk r) st1
 | .ct r=>.ok (.ct r) st1
def ww:Ce X c [] (Jz S):=fS.imp λD Y H ⟨Z,b,R,a,w⟩=>w Y H Bj.refl a R
def wx{s:Stmt}{r:List Stmt}{F G:Ay S}(a:DS X c s F)(b:Ce X c r G):Ce X c (s::r) (E7 S F G):=
 (bA a b).imp λD Y H hI8=>by
  obtain⟨Z,a,R,b,w⟩:=hI8;refine{Z,a,R,b,ak (ae.mp w) (λe a q=>?_) λx a q=>q};cases e with
  | nx b=>exact λh H1 f d g=>{b,a,g,d,ak q (λe b q=>q.from f) λx b q=>q}
  | rt d=>exact q
  | bk r=>exact q
  | ct r=>exact q
def wy{s:Stmt}{F:Ay S}(a:DS X c s F):Ce X c [s] F:=dr a
def Ib(S:Type)(f:Fn S):Ay S:=λZ st=>(f Z st).bind λ_ st1=>.ok (.nx Z) st1
def wz{g:Gr}{e:Expr}{f:Fn S}{pos:Pos}(h:DE X c g e f)(a:autoParam (swapsWith e none pos.line X.env=pure false) uR):DS X c (.Expr e pos) (Ib S f):=
 (fT h a).imp λD Y H q=>aU (cr (g:=g) (k:=λ_ Z a=>.ok (.nx Z) a) q) λv H1 ⟨Z,d,f,a,R,i,h,b,e,z,w⟩=>w Y H1 e.frm b h
instance D.flat:D->Bool
 | .lst l=>D.immL l
 | .dct _ l=>D.immL l
 | _=>false
def Hl(S:Type)(f:Fn S):Ay S:=λZ st=>(f Z st).bind λd st1=>if d.imm=true\/d.flat=true then .ok (.rt d) st1 else .bad
def gp{K:FG}{A b:Addr->Prop}{H:Hp}{d:D}{a:Addr}(h:Is K A H d (.ref a))(m:d.flat=true)(n:b a):Is K b H d (.ref a):=by
 cases d with
 | lst l=>
   obtain⟨b,d,e,_,f,i⟩:=Is.lst_iff.mp h;cases e;exact Is.lst n f (aa.ofImm m i)
 | dct f l=>
   obtain⟨b,d,e,_,i,q⟩:=Is.dct_iff.mp h;cases e;exact Is.dct_iff.mpr {a,d,rfl,n,aa.ofImm m i,q}
 | _=>simp[D.flat] at m
def gq{K:FG}{A:Addr->Prop}{H:Hp}{d:D}{v:V}(h:Is K A H d v)(m:d.flat=true):∃a,v=.ref a/\d.mut=true/\A a/\∃o,H a=some o:=by
 cases d with
 | lst l=>
   obtain⟨b,a,e,n,d,i⟩:=Is.lst_iff.mp h;exact{b,e,rfl,n,_,d}
 | dct f l=>
   obtain⟨b,a,e,n,i,q⟩:=Is.dct_iff.mp h;rcases q with⟨_,_,_,q⟩ | ⟨_,_,_,q⟩<;>exact{b,e,rfl,n,_,q}
 | _=>simp[D.flat] at m
theorem Ax.none0{H:Hp}{Y:St}{Z:Ae}{b:S}(R:Ax c H Y Z)(d:W.ok b H){a:Addr}(h:H a=none):c.H0 a=none:=by
 cases q:c.H0 a with
 | none=>rfl
 | some o=>rw[R.frame a o q (bH d h)] at h;cases h
def wA{e:Expr}{f:Fn S}{pos:Pos}(h:DE X c .F e f):DS X c (.Return (some e) pos) (Hl S f):=
 (cT h).imp λD Y H q=>aU (cr (g:=.F) q) λv H1 hI9=>by
  obtain⟨Z,d,f,b,R,h,i,a,e,z,w⟩:=hI9;by_cases m:d.imm=true\/d.flat=true
  ·rw[if_pos m] at w
   refine w v H1 (e.f0 R) a ?_;rcases m with m | m
   ·exact Is.ofImm m z.1
   ·obtain⟨a,rfl,b,d,_⟩:=gq z.1 m
    exact gp z.1 m {d.1,R.none0 h (z.2 a rfl b)}
  ·rw[if_neg m] at w;exact w.elim
instance own?(Z:Ae)(i:Nat):Option D:=match Z[i]? with
 | some (.own d)=>if d.flat=true then some d else none
 | some (.bor d)=>if d.imm=true then some d else none
 | _=>none
def Ic(S:Type)(i:Nat):Ay S:=λZ st=>(Au (own? Z i) st).bind λd st1=>.ok (.rt d) st1
open H in
def wB{i:Nat}{x:Str}{p pos:Pos}(h:PE X (.Name x p) (B1 i)):DS X c (.Return (some (.Name x p)) pos) (Ic S i):=
 (cT h).imp λD Y H hI10=>by
  obtain⟨Z,a,R,l,w⟩:=hI10;obtain⟨d,e,q⟩:=au.mp (ae.mp w);have j:∀{o:Option (Option V)} {v:V},o.join=some v->o=some (some v):=λ{o v} e=>by cases o with
   | none=>cases e
   | some a=>rw[show a=some v from e]
  delta own? at e;cases b:Z[i]? with
  | none=>rw[b] at e;cases e
  | some s=>
    rw[b] at e;have z:=R.slot i s b;cases s with
    | no=>cases e
    | hnd=>cases e
    | bor d'=>
      have e:(if d'.imm=true then some d' else none)=some d:=e;split at e
      ·rename_i m
       cases e;obtain⟨v,g,f⟩:=z;exact{v,j g,q v H (λb o h n=>R.frame b o h n) l (Is.ofImm m f)}
      ·cases e
    | own d'=>
      have e:(if d'.flat=true then some d' else none)=some d:=e;split at e
      ·rename_i m
       cases e;obtain⟨a,g,n,f,t⟩:=z;have i:Is c.K 'w' H d (.ref a):=(t.mono (A':=λb=>¬W.mv b) {λ_ _ z _=>z,λb o a z=>⟨a.1,z⟩} λo z=>z).isTop n.1;exact{_,j g,q _ H (λb o h n=>R.frame b o h n) l (gp i m ⟨n.1,f⟩)}
      ·cases e
def KJ(S:Type):Ay S:=λ_ st=>.ok (.rt .non) st
instance sIf(S:Type)(t:A9 S)(F G:Ay S):Ay S:=λZ st=>(t Z st).bind λb st1=>if b=true then F Z st1 else G Z st1
open H in
def wC{e:Expr}{a b:List Stmt}{pos:Pos}{t:A9 S}{F G:Ay S}(h:DT X c e t)(d:Ce X c a F)(f:Ce X c b G):DS X c (.If e a b pos) (sIf S t F G):=
 (fU h d f).imp λD Y H q=>by
  obtain⟨Z,f,R,g,w⟩:=qn (k:=λb=>if b=true then F else G) (by
   obtain⟨Z,f,R,g,w⟩:=q;refine{Z,f,R,g,?_};have e:sIf S t F G Z f=(t Z f).bind λd a=>(if d=true then F else G) Z a:=by
    delta sIf;congr;funext d a;cases d<;>rfl
   rw[e] at w;exact w)
  refine{Z,f,R,g,ak w (λb a q H1 e f=>?_) λx a q=>q};obtain⟨g,d,i,a,h⟩:=q H1 e f;cases b with
  | true=>exact⟨g,d,i,a,h⟩
  | false=>exact⟨g,d,i,a,h⟩
def KL(S:Type):Ay S:=λZ st=>.ok (.bk Z) st
def KM(S:Type):Ay S:=λZ st=>.ok (.ct Z) st
end
section
variable{X:Cx}{S:Type}{W:Wd S}{c:Dx W}{H H1 H':Hp}{Y Y':St}{Z Z':Ae}{st:S}{i:Nat}{d:D}{v:V}
def aH{α:Type}{l:List α}{i j:Nat}{a b:α}(h:(l.set i a)[j]?=some b):(j=i/\b=a)\/(j≠i/\l[j]?=some b):=by
 by_cases e:j=i
 ·subst e
  rw[List.getElem?_set_self'] at h;cases q:l[j]? with
  | none=>rw[q] at h;cases h
  | some x=>rw[q] at h;exact .inl {rfl,(Option.some.inj h).symm}
 ·rw[DD (Ne.symm e)] at h
  exact .inr ⟨e,h⟩
def bb(e:o.join=some v):o=some (some v):=by
 cases o with
 | none=>cases e
 | some a=>rw[show a=some v from e]
def jE{b:Addr}(h:Ow (Y.set i (some v)) (Z.set i (.bor d)) b):Ow Y Z b:=by
 obtain⟨j,e,f,a⟩:=h;rcases aH f with⟨_,z⟩ | ⟨n,z⟩
 ·cases z
 ·rcases aH a with⟨m,_⟩ | ⟨_,y⟩
  ·exact absurd m n
  ·exact⟨j,e,z,y⟩
def Ax.setB(R:Ax c H Y Z)(m:i<Z.length)(h:Is c.K (Av c Y Z) H d v):Ax c H (Y.set i (some v)) (Z.set i (.bor d)) where
 len:=by rw[EF,EF];exact R.len
 frame:=R.frame
 avl:=R.avl
 slot:=λj s f=>by
  have k:Bg (Av c Y Z) (Av c (Y.set i (some v)) (Z.set i (.bor d))) H H:={λ_ _ z _=>z,λb o a z=>{{a.1,λw=>a.2.1 (jE w),a.2.2},z}};rcases aH f with⟨e,z⟩ | ⟨n,z⟩
  ·subst z
   subst e;refine{v,?_,Is.mono k h};rw[He (by rw[R.len];exact m)];rfl
  ·rw[DD (Ne.symm n)]
   have q:=R.slot j s z;cases s with
   | no=>trivial
   | bor e=>obtain⟨v',b,f⟩:=q;exact{v',b,f.mono k}
   | own e=>obtain⟨a,b,g,f,t⟩:=q;exact{a,b,g,f,t.mono k λo z=>z}
   | hnd=>exact q
 uniq:=λj h a e e' g l b f=>by
  rcases aH g with⟨_,z⟩ | ⟨n,z⟩
  ·cases z
  ·rcases aH l with⟨_,z'⟩ | ⟨g,z'⟩
   ·cases z'
   ·rw[DD (Ne.symm n)] at b
    rw[DD (Ne.symm g)] at f;exact R.uniq j h a e e' z z' b f
def bc:Bj c H Y Z H (Y.set i (some v)) (Z.set i (.bor d)):={λ_ _ h _ _=>h,λ_ _ _ _ w=>jE w}
def jF{a b:Addr}(h:Ow (Y.set i (some (.ref a))) (Z.set i (.own d)) b):Ow Y Z b\/b=a:=by
 obtain⟨j,e,f,b⟩:=h;rcases aH f with⟨m,_⟩ | ⟨n,z⟩
 ·rcases aH b with⟨_,y⟩ | ⟨n,_⟩
  ·cases y;exact .inr rfl
  ·exact absurd m n
 ·rcases aH b with⟨m,_⟩ | ⟨_,y⟩
  ·exact absurd m n
  ·exact .inl ⟨j,e,z,y⟩
def Ax.setO{a:Addr}(R:Ax c H Y Z)(C:W.ok st H)(x:Ah W H H1){b:S}(e:W.ok b H1)(I:i<Z.length)(h:Is c.K (Av c Y Z) H1 d (.ref a))(m:d.flat=true)(p:H a=none) :
 Ax c H1 (Y.set i (some (.ref a))) (Z.set i (.own d))/\Bj c H Y Z H1 (Y.set i (some (.ref a))) (Z.set i (.own d)):=by
 have l:¬W.mv a:=bH C p;have k:Bg (Av c Y Z) (Av c (Y.set i (some (.ref a))) (Z.set i (.own d))) H H1:=bG (λb o e t=>x b o e λf=>by
  obtain⟨o',g,y,j⟩:=W.live st H b C f;rw[e] at g;cases g;rcases t with⟨u,z⟩ | ⟨n,u,z⟩
  ·exact y u z
  ·exact j n u z) λb o f e=>{{f.1,(λw=>by
   rcases jF w with w | w
   ·exact f.2.1 w
   ·subst w;rw[p] at e;cases e),f.2.2},x b o e f.1}
 refine{{by rw[EF,EF];exact R.len,λb o e n=>x b o (R.frame b o e n) n,λj s f=>?_,(λb h=>let ⟨n,z,o,g,q⟩:=R.avl b h;{n,z,o,x b o g n,q}),λj E b e e' B A r u=>?_},{λb o e n w=>x b o e n,λb o e n w=>?_}}
 ·rcases aH f with⟨e,z⟩ | ⟨n,z⟩
  ·subst z
   subst e;refine{a,by rw[He (by rw[R.len];exact I)];rfl,{l,λw=>by obtain⟨_,_,o,g,_⟩:=R.avl a w;rw[p] at g;cases g},R.none0 C p,?_};cases d with
   | lst l=>
     obtain⟨b,C,e,_,G,f⟩:=Is.lst_iff.mp h;cases e;exact{C,G,aa.ofImm m f}
   | dct G l=>
     obtain⟨b,C,e,_,f,q⟩:=Is.dct_iff.mp h;cases e;exact{C,aa.ofImm m f,q}
   | _=>simp[D.flat] at m
  ·rw[DD (Ne.symm n)]
   have q:=R.slot j s z;cases s with
   | no=>trivial
   | bor e=>obtain⟨v',h,f⟩:=q;exact{v',h,f.mono k}
   | own e=>obtain⟨b,h,y,f,t⟩:=q;exact{b,h,y,f,t.mono k λo z=>x b o z y.1}
   | hnd=>exact q
 ·have fresh:∀(j:Nat) (e:D),Z[j]?=some (.own e)->Y[j]?=some (some (.ref a))->False:=λj e B A=>by
   obtain⟨_,_,o,g,_⟩:=R.owOk ⟨j,e,B,A⟩;rw[p] at g;cases g
  rcases aH B with⟨h,z⟩ | ⟨n,z⟩
  ·rcases aH A with⟨g,z'⟩ | ⟨f,z'⟩
   ·rw[h,g]
   ·rw[DD (Ne.symm f)] at u
    rcases aH r with⟨_,y⟩ | ⟨a,_⟩
    ·cases y;exact(fresh E e' z' u).elim
    ·exact absurd h a
  ·rcases aH A with⟨g,z'⟩ | ⟨f,z'⟩
   ·rw[DD (Ne.symm n)] at r
    rcases aH u with⟨_,y⟩ | ⟨a,_⟩
    ·cases y;exact(fresh j e z r).elim
    ·exact absurd g a
   ·rw[DD (Ne.symm n)] at r
    rw[DD (Ne.symm f)] at u;exact R.uniq j E b e e' z z' r u
 ·rcases jF w with w | w
  ·exact w
  ·subst w;rw[p] at e;cases e
instance put(Z:Ae)(i:Nat)(d:D):Option Ae:=if i<Z.length then some (Z.set i (.bor d)) else none
instance putN(Z:Ae)(i:Nat)(d:D):Option Ae:=if i<Z.length then some (Z.set i (if d.flat=true then .own d else .bor d)) else none
def FO(S:Type)(i:Nat)(f:Fn S):Ay S:=λZ st=>(f Z st).bind λd st1=>(Au (putN Z i d) st1).bind λZ' st2=>.ok (.nx Z') st2
def Hm(S:Type)(i:Nat)(f:Fn S):Ay S:=λZ st=>(f Z st).bind λd st1=>(Au (put Z i d) st1).bind λZ' st2=>.ok (.nx Z') st2
open H in
def jG{f:Fn S}{D:DQ}(h:tS c (FO S i f) D Y H):F8 (tD c .F f) (F7 i) D Y H:=
 aU (cr (g:=.F) h) λv H1 hI11=>by
  obtain⟨Z,d,b,a,R,o,l,f,e,z,w⟩:=hI11;obtain⟨Z',b,w⟩:=au.mp (ae.mp w);delta putN at b;split at b
  ·rename_i h
   by_cases m:d.flat=true
   ·rw[if_pos m] at b
    cases b;obtain⟨a,rfl,n,j,_⟩:=gq z.1 m;obtain⟨R2,j⟩:=R.setO (i:=i) o e f h z.1 m (z.2 a rfl n);exact w (Y.set i (some (.ref a))) H1 j f R2
   ·rw[if_neg m] at b
    cases b;exact w _ H1 (e.frm.trans bc) f (l.setB h z.1)
  ·cases b
open H in
def qo{f:Fn S}{D:DQ}(h:tS c (Hm S i f) D Y H):F8 (tD c .B f) (F7 i) D Y H:=
 aU (cr (g:=.B) h) λv H1 hI12=>by
  obtain⟨Z,d,f,a,R,j,h,b,e,z,w⟩:=hI12;obtain⟨Z',a,w⟩:=au.mp (ae.mp w);delta put at a;split at a
  ·rename_i f
   cases a;exact w _ H1 (e.frm.trans bc) b (h.setB f z)
  ·cases a
def wD{x:Str}{e:Expr}{f:Fn S}{p pos:Pos}(j:X.N.Nodup)(h:X.N[i]?=some x)(a:Loc X.env.scope x)(l:DE X c .F e f)(g:autoParam (swapsWith e (some (.Name x p)) pos.line X.env=pure false) uR)(b:autoParam (X.fn x=true\/X.env.scope.names.lookup x=some .local) M3._auto_1) :
 DS X c (.Assign [.Name x p] e pos) (FO S i f):=(bF j h a l g b).imp λD Y H q=>jG q
def wE{x:Str}(l:X.N.Nodup)(g:X.N[i]?=some x)(h:Loc X.env.scope x)(b:DE X c .B e f)(a:autoParam (swapsWith e (some (.Name x p)) pos.line X.env=pure false) uR)(j:autoParam (X.fn x=true\/X.env.scope.names.lookup x=some .local) M3._auto_1) :
 DS X c (.Assign [.Name x p] e pos) (Hm S i f):=(bF l g h b a j).imp λD Y H q=>qo q
abbrev BX:=D->Ae->Option Ae
abbrev Fu:=List D->Ae->Option Ae
instance tG{S:Type}{W:Wd S}(c:Dx W)(G:BX):TG:=λv Y H Q=>∃Z d Z' st,Ax c H Y Z/\W.ok st H/\Is c.K (Av c Y Z) H d v/\G d Z=some Z'/\∀Y',Ax c H Y' Z'->Bj c H Y Z H Y' Z'->Q Y' H
instance tGs{S:Type}{W:Wd S}(c:Dx W)(G:Fu):TGs:=λvs Y H Q=>∃Z l Z' st,Ax c H Y Z/\W.ok st H/\aa c.K (Av c Y Z) H l vs/\G l Z=some Z'/\∀Y',Ax c H Y' Z'->Bj c H Y Z H Y' Z'->Q Y' H
instance DG(X:Cx){S:Type}{W:Wd S}(c:Dx W)(e:Expr)(G:BX):Prop:=PG X e (tG c G)
instance DGs(X:Cx){S:Type}{W:Wd S}(c:Dx W)(e:List Expr)(G:Fu):Prop:=PGs X e (tGs c G)
def PG.imp(h:PG X e t)(i:∀v Y H Q,t' v Y H Q->t v Y H Q):PG X e t':=λa s Y H v u Q I r q=>h a s Y H v u Q I r (i v Y H Q q)
def PGs.imp(h:PGs X e t)(i:∀v Y H Q,t' v Y H Q->t v Y H Q):PGs X e t':=λa s Y H v u Q I r q=>h a s Y H v u Q I r (i v Y H Q q)
instance gN(i:Nat):BX:=λd Z=>put Z i d
open H in
def wF{x:Str}{pos:Pos}(f:X.N.Nodup)(a:X.N[i]?=some x)(b:Loc X.env.scope x)(e:autoParam (X.fn x=true\/X.env.scope.names.lookup x=some .local) M3._auto_1):DG X c (.Name x pos) (gN i):=
 (eO f a b e).imp λv Y H Q hI13=>by
  obtain⟨Z,d,Z',st,R,b,z,e,q⟩:=hI13;delta gN put at e;split at e
  ·rename_i h
   cases e;exact q _ (R.setB h z) bc
  ·cases e
def EI:Fu:=λl Z=>match l with
 | []=>some Z
 | _=>none
def CG(G:BX)(Gs:Fu):Fu:=λl Z=>match l with
 | d::r=>(G d Z).bind λZ1=>Gs r Z1
 | []=>none
def wG:DGs X c [] EI:=fW.imp λv Y H Q hI14=>by
 obtain⟨Z,l,Z',st,R,a,z,e,q⟩:=hI14;cases l with
 | nil=>cases e;exact{aa.nil.mp z,q Y R Bj.refl}
 | cons _ _=>cases e
def wH{e:Expr}{es:List Expr}{G:BX}{b:Fu}(a:DG X c e G)(g:DGs X c es b)(f:autoParam ((assignEach (e::es) X.env).map (·.2)=assign e X.env::(assignEach es X.env).map (·.2)) uR):DGs X c (e::es) (CG G b):=
 (du a g f).imp λv Y H Q hI15=>by
  obtain⟨Z,l,Z',st,R,f,z,e,q⟩:=hI15;cases l with
  | nil=>cases e
  | cons d r=>
    obtain⟨g,l,h,j,m⟩:=aa.cons.mp z;have e:(G d Z).bind (λa=>b r a)=some Z':=e;cases b:G d Z with
    | none=>rw[b] at e;cases e
    | some a=>
      rw[b] at e;refine{g,l,h,Z,d,a,st,R,f,j,b,λl h g=>?_};exact{a,r,Z',st,h,f,m.mono (g.keepT R f),e,λa R2 b=>q a R2 (g.trans b)}
instance gT(n:Nat)(Gs:Fu):BX:=λd Z=>match d with
 | .tup l=>if l.length=n then Gs l Z else none
 | _=>none
open H in
def wI{es:List Expr}{k:Nat}{pos:Pos}{b:Fu}{n:Nat}(f:X.calm=true)(g:c.K=X.K)(h:DGs X c es b)(e:autoParam ((assignEach es X.env).length=n) uR)(a:autoParam ((assignEach es X.env).findIdx? (·.1)=none) uR):DG X c (.Tuple es k pos) (gT n b):=
 (fX f h e a).imp λv Y H Q hI16=>by
  obtain⟨Z,d,Z',st,R,o,z,e,q⟩:=hI16;cases d with
  | tup l=>
    obtain⟨a,m,j,h,f⟩:=Is.tup_sq z;have e:(if l.length=n then b l Z else none)=some Z':=e;split at e
    ·rename_i b
     exact{a,m,j,by rw[<-g];exact h,by rw[<-f.length];exact b,Z,l,Z',st,R,o,f,e,q}
    ·cases e
  | _=>cases e
def Ie(S:Type)(G:BX)(f:Fn S):Ay S:=λZ st=>(f Z st).bind λd st1=>(Au (G d Z) st1).bind λZ' st2=>.ok (.nx Z') st2
def wJ{a e:Expr}{f:Fn S}{G:BX}{pos:Pos}(m:DE X c .B e f)(j:DG X c a G)(h:autoParam (swapsWithSole [a] e pos.line X.env=pure false) uR)(l:autoParam (swappedStores [a] e X.env=pure none) uR)(b:autoParam ((assignEach [a] X.env).map (·.2)=[assign a X.env]) uR):DS X c (.Assign [a] e pos) (Ie S G f):=
 (fY m j h l b).imp λD Y H q=>aU (cr (g:=.B) q) λv H1 hI17=>by
  obtain⟨Z,d,f,b,R,h,j,a,e,z,w⟩:=hI17;obtain⟨Z',h,w⟩:=au.mp (ae.mp w);exact{Z,d,Z',b,j,a,z,h,λY' f b=>w Y' H1 (e.frm.trans b) a f}
end
def Hn{S:Type}{W:Wd S}(c:Dx W)(Y:St)(Z:Ae)(H:Hp)(J:It)(l:List D):Prop:=∀(c':Dx W) (hK:c'.K=c.K) Y2 Z2 H2 (st2:S),Bg (Av c Y Z) (Av c' Y2 Z2) H H2->Ax c' H2 Y2 Z2->W.ok st2 H2->∀i:Nat,
 (∀d,l[i]?=some d->J.go i H2/\∀x H3,J.yld i H2 x H3->Ci H2 H3/\Is c.K (Av c' Y2 Z2) H3 d x)/\(l.length<=i->J.stop i H2)
abbrev FnI(S:Type):=Ba S
instance tI{S:Type}{W:Wd S}(c:Dx W)(f:FnI S):TI:=λY H R=>∃Z st,Ax c H Y Z/\W.ok st H/\
 Aa (f Z st) (λl st'=>∀J H',Ah W H H'->W.ok st' H'->Hn c Y Z H' J l->R J H') λx st'=>∀H',Ah W H H'->W.ok st' H'->c.Ex x st' H'
instance DI(X:Cx){S:Type}{W:Wd S}(c:Dx W)(tg iter:Expr)(f:FnI S):Prop:=PI X tg iter (tI c f)
def PI.imp(h:PI X tg e t)(i:∀Y H R,t' Y H R->t Y H R):PI X tg e t':=λa s Y H R I q=>h a s Y H R I (i Y H R q)
section
variable{X:Cx}{S:Type}{W:Wd S}{c:Dx W}{tg:Expr}
def Er(S:Type)(sel:D->Option (List D))(f:Fn S):FnI S:=λZ st=>(f Z st).bind λd st1=>Au (sel d) st1
instance D.tup?:D->Option (List D)
 | .tup l=>some l
 | _=>none
instance D.lst?:D->Option (List D)
 | .lst l=>some l
 | _=>none
def jH(g:c.K=X.K)(h:DE X c .B e f):DI X c tg e (Er S D.tup? f):=
 (oe h).imp λY H R hI18=>by
  obtain⟨Z,b,a,f,w⟩:=hI18;refine{Z,b,a,f,ak (ae.mp w) (λd a q v H1 e f z=>?_) λx a q=>q};obtain⟨l,h,q⟩:=au.mp q;cases d with
  | tup m=>
    cases h;obtain⟨a,b,j,s0,i⟩:=Is.tup_iff.mp z;have s:AS c.K H1 a b:=.of s0;refine{a,j,{b,by rw[<-g];exact s},q _ H1 e f ?_};intro m j n o H2 f k R2 p j;have e:AS c.K H2 a b:=.of (k.tup a b s0);have f:aa c.K (Av m n o) H2 l b:=i.mono k;refine{λd j=>?_,λa=>{b,by rw[<-g];exact e,by rw[<-f.length];exact a}};obtain⟨i,d,l⟩:=f.get j;exact{{b,i,by rw[<-g];exact e,d},λx H3 hI19=>by
     obtain⟨f,y⟩:=hI19;subst f;have a:=y b (by rw[<-g];exact e);rw[d] at a;cases a;exact{Ci.refl _,l}}
  | _=>cases h
def qq(a:c.K=X.K)(h:DE X c .B e f):DI X c tg e (Er S D.lst? f):=
 (iT h).imp λY H R hI20=>by
  obtain⟨Z,b,a,f,w⟩:=hI20;refine{Z,b,a,f,ak (ae.mp w) (λd a q v H1 e f z=>?_) λx a q=>q};obtain⟨l,g,q⟩:=au.mp q;cases d with
  | lst m=>
    cases g;obtain⟨a,b,h,n,s,i⟩:=Is.lst_iff.mp z;refine{a,h,{b,.of s},q _ H1 e f ?_};intro h j m o H2 f k R2 p j;have e:H2 a=some (.lst b):=(k.nod a _ n s).2;have f:aa c.K (Av h m o) H2 l b:=i.mono k;refine{λd h=>?_,λa=>{b,.of e,by rw[<-f.length];exact a}};obtain⟨i,d,j⟩:=f.get h;exact{{b,i,.of e,d},λx H3 hI21=>by
     obtain⟨f,y⟩:=hI21;subst f;have a:=y b (.of e);rw[d] at a;cases a;exact{Ci.refl _,j}}
  | _=>cases g
def Dk(lo:Int)(n:Nat):List D:=(List.range n).map λ(k:Nat)=>D.int (lo+(k:Int))
def GH:List D->Option (List D)
 | [.int j]=>if -(2 ^ 62)<=j/\j<2 ^ 62 then some (Dk 0 j.toNat) else none
 | _=>none
def FP(S:Type)(o:List D->Option (List D))(f:Ba S):FnI S:=λZ st=>(f Z st).bind λl st1=>Au (o l) st1
def qr(f:Int)(n:Nat):Hn c Y Z H (Itr f n) (Dk f n):=by
 intro d a g h H2 b k R2 e j;refine{λd a=>?_,λb=>?_}
 ·unfold Dk at a
  rw[AK] at a;cases q:(List.range n)[j]? with
  | none=>rw[q] at a;cases a
  | some m=>
    rw[q] at a;cases a;obtain⟨d,e⟩:=AQ.mp q;rw[List.getElem_range] at e;subst e;rw[Ef] at d;exact{d,λx H3 ⟨e,a⟩=>by subst e a;exact{Ci.refl _,Is.int_iff.mpr rfl}}
 ·unfold Dk at b
  rw[Ai,Ef] at b;exact b
open H in
def wK{a:Expr}{f:Ba S}{p pos:Pos}(e:Gl X "range")(d:X.mg "range" = none)(g:DA X c [a] f)(b:autoParam (starEach [a] X.env=[(false,eval a X.env)]) uR):DI X c tg (.Call (.Name "range" p) [a] [] pos) (FP S GH f):=
 (oh e d g b).imp λY H R hI22=>by
  obtain⟨Z,b,a,d,w⟩:=hI22;refine{Z,b,a,d,ak (ae.mp w) (λl b q a H1 e d z=>?_) λx b q=>q};obtain⟨m,a,q⟩:=au.mp q;delta GH at a;split at a
  ·rename_i j
   split at a
   ·rename_i h
    cases a;obtain⟨v,r,b,f,g⟩:=aa.cons.mp z;rw[aa.nil.mp g,Is.int_iff.mp f] at b;exact{j,b,h.1,h.2,q _ H1 e d (qr 0 _)}
   ·cases a
  ·cases a
instance frz1(i:Nat)(Z:Ae):Ae:=match Z[i]? with
 | some (.own d)=>Z.set i (.bor d)
 | _=>Z
instance frz:List Nat->Ae->Ae
 | [],Z=>Z
 | i::r,Z=>frz r (frz1 i Z)
open H in
def Ax.frz1{H:Hp}{Y:St}{Z:Ae}{u:S}(i:Nat)(R:Ax c H Y Z)(a:W.ok u H):Ax c H Y (frz1 i Z)/\Bj c H Y Z H Y (L2.frz1 i Z):=by
 delta L2.frz1;split
 ·rename_i d o
  obtain⟨a,l,n,f,t⟩:=R.slot i _ o;have h:=bb l;have b:i<Z.length:=(AQ.mp o).1;have g:∀b,Ow Y (Z.set i (.bor d)) b->Ow Y Z b/\b≠a:=λb hI23=>by
   obtain⟨j,e,p,m⟩:=hI23;rcases aH p with⟨_,z⟩ | ⟨r,z⟩
   ·cases z
   ·refine{⟨j,e,z,m⟩,λq=>?_}
    subst q;exact r (R.uniq j i b e d z o m h)
  have k:Bg (Av c Y Z) (Av c Y (Z.set i (.bor d))) H H:={λ_ _ z _=>z,λb o a z=>{{a.1,λw=>a.2.1 (g b w).1,a.2.2},z}};refine{{by rw[EF];exact R.len,R.frame,λj s v=>?_,R.avl,λj d b e e' p m i x=>?_},{λb o h _ _=>h,λb o _ _ w=>(g b w).1}}
  ·rcases aH v with⟨h,z⟩ | ⟨r,z⟩
   ·subst z h
    exact{_,l,(t.mono k λo z=>z).isTop {n.1,λw=>(g a w).2 rfl,n.2}}
   ·have q:=R.slot j s z
    cases s with
    | no=>trivial
    | bor e=>obtain⟨v',l,a⟩:=q;exact{v',l,a.mono k}
    | own e=>obtain⟨b,l,a,f,t⟩:=q;exact{b,l,a,f,t.mono k λo z=>z}
    | hnd=>exact q
  ·rcases aH p with⟨_,z⟩ | ⟨_,z⟩
   ·cases z
   ·rcases aH m with⟨_,z'⟩ | ⟨_,z'⟩
    ·cases z'
    ·exact R.uniq j d b e e' z z' i x
 ·exact⟨R,Bj.refl⟩
theorem Ax.frz{H:Hp}{Y:St}{b:S}(a:W.ok b H):∀(l:List Nat) {Z:Ae},Ax c H Y Z->Ax c H Y (L2.frz l Z)/\Bj c H Y Z H Y (L2.frz l Z)
 | [],Z,R=>⟨R,Bj.refl⟩
 | i::r,Z,R=>by
   obtain⟨d,f⟩:=R.frz1 i a;obtain⟨R2,e⟩:=Ax.frz a r d;exact{R2,f.trans e}
def DV(S:Type)(G:BX)(B:Ay S):List D->Ay S
 | [],Z,st=>.ok (.nx Z) st
 | d::r,Z,st=>(Au (G d Z) st).bind λZ1 st1=>(B Z1 st1).bind λfl st2=>match fl with
   | .nx Z2=>DV S G B r Z2 st2
   | .ct Z2=>DV S G B r Z2 st2
   | .bk Z2=>.ok (.nx Z2) st2
   | .rt d=>.ok (.rt d) st2
def Ig(S:Type)(fz:List Nat)(f:FnI S)(G:BX)(B:Ay S):Ay S:=λZ st=>(f (frz fz Z) st).bind λl st1=>DV S G B l (frz fz Z) st1
def wL{a:Expr}{b:List Stmt}{f:FnI S}{G:BX}{B:Ay S}{pos:Pos}(p:List Nat)(g:PassesOwn 'e' X.A X.env X.xe)(e:X.calm=true)(M:DI X c tg a f)(d:DG X c tg G)(r:Ce X c b B)(h:autoParam (∀x,foldedSetIterable a X.env x=pure x) Nb._auto_1):DS X c (.For tg a b [] pos) (Ig S p f G B):=
 (oj g e M d r h).imp λD Y H hI24=>by
  obtain⟨Z,b,R,a,w⟩:=hI24;obtain⟨f,n⟩:=R.frz a p;refine{frz p Z,b,f,a,ak (ae.mp w) (λl d q J H1 e b o=>?_) λx d q H1 e b=>q H1 (e.f0 R) b};have h:=f.ext a e;refine{λi m j H2=>∃g a,i<=l.length/\m=l.length-i/\Bj c H1 Y (frz p Z) H2 j g/\Ax c H2 j g/\W.ok a H2/\Aa (DV S G B (l.drop i) g a) (Dj c D j g H2) (D3 c),{l.length,frz p Z,d,AF _,rfl,Bj.refl,h,b,?_},?_}
  ·rw[List.drop_zero]
   exact ak q (λu a q=>(q.from n).from e.frm) λx a q=>q
  ·rintro i m j H2 ⟨g,a,d,rfl,A,R2,f,s⟩
   obtain⟨d,C⟩:=o c rfl j g H2 a (A.keepT h b) R2 f i;by_cases n:i<l.length
   ·have e:l[i]?=some l[i]:=AO n
    obtain⟨b,o⟩:=d _ e;rw[List.drop_eq_getElem_cons n] at s;refine .inr {b,λm H3=>∃e d,Bj c H1 Y (frz p Z) H3 m e/\Ax c H3 m e/\W.ok d H3/\Aa (DV S G B (l.drop (i+1)) e d) (Dj c D m e H3) (D3 c),λm H3 ⟨e,d,z,v,h,b⟩=>{l.length-(i+1),'o',e,d,n,rfl,z,v,h,b},λx H3 y=>?_};obtain⟨n,E⟩:=o x H3 y;have z:Ah W H2 H3:=n.ext;have h:W.ok a H3:=W.stay a H2 H3 f (λb o _ r=>n b o r) λb o r _=>n b o r
    have v:=R2.ext f z;obtain⟨r,b,o⟩:=au.mp (ae.mp s);refine{g,_,r,a,v,h,E,b,λy I J=>?_};have n:Bj c H2 j g H3 y r:=z.frm.trans J;refine{r,a,I,h,ak (ae.mp o) (λu a h=>?_) λx a q=>q};have o:∀b,Aa (DV S G B (l.drop (i+1)) b a) (Dj c D j g H2) (D3 c)->Nx c (λm H3=>∃e d,Bj c H1 Y (frz p Z) H3 m e/\Ax c H3 m e/\W.ok d H3/\Aa (DV S G B (l.drop (i+1)) e d) (Dj c D m e H3) (D3 c)) y r H3 b a:=
     λb h d H5 g e m=>{b,a,A.trans (n.trans g),m,e,ak h (λu a q=>q.from (n.trans g)) λx a q=>q}
    cases u with
    | nx b=>exact o b h
    | ct b=>exact o b h
    | bk b=>exact λd H5 g e m=>h d H5 (n.trans g) e m
    | rt d=>exact h
   ·have a:i=l.length:=by omega
    subst a;rw[List.drop_length] at s;exact .inl {C (Ap _),s j H2 Bj.refl f R2}
end
theorem bI:∀{l m:List D},D.immL l=true->D.immL m=true->D.immL (l++m)=true
 | [],_,_,h=>h
 | d::l,m,h,k=>by
   have a:d.imm=true/\D.immL l=true:=by simpa [D.immL] using h
   show (d.imm&&D.immL (l++m))=true;rw[a.1,bI a.2 k];rfl
abbrev Dx.avoid{S:Type}{W:Wd S}(c:Dx W)(av:Addr->Prop):Dx W:=⟨c.K,c.H0,c.Ex,av⟩
def Bu(Z:Ae)(ixs:List (Option Nat)):Ae:=ixs.map λo=>match o with
 | some i=>(match Z[i]? with
   | some (.bor d)=>.bor d
   | some (.own d)=>.bor d
   | some .hnd=>.hnd
   | _=>.no)
 | none=>.no
section
variable{S:Type}{W:Wd S}{c:Dx W}{H H1:Hp}{Y:St}{Z:Ae}{st:S}
def eW:¬Ow Y' (Bu Z ixs) b:=λhI25=>by
 obtain⟨j,d,h,_⟩:=hI25;delta Bu at h;rw[AK] at h;cases q:ixs[j]? with
 | none=>rw[q] at h;cases h
 | some o=>
   rw[q] at h;cases o with
   | none=>cases h
   | some i=>
     have h:(match Z[i]? with | some (.bor d)=>Sl.bor d | some (.own d)=>.bor d | some .hnd=>.hnd | _=>.no)=Sl.own d:=Option.some.inj h;split at h<;>cases h
def Ax.pick{D:Addr}(R:Ax c H Y Z)(f:W.ok st H)(l:H D=none)(ixs:List (Option Nat)):Ax (c.avoid λb=>c.av b\/b=D) (Ag H D (.lst [])) (L2.pick Y ixs) (Bu Z ixs) where
 len:=by delta L2.pick Bu;rw[Ai,Ai]
 frame:=λb o h n=>by
  have e:H b=some o:=R.frame b o h n;show Ag H D _ b=some o;rw[ah (ay e l)];exact e
 uniq:=λi j a d e g _ _ _=>(eW (Y':=L2.pick Y ixs) (Z:=Z) (ixs:=ixs) (b:=a) {i,d,g,by assumption}).elim
 avl:=λb h=>by
  rcases h with h | h
  ·obtain⟨n,z,o,g,q⟩:=R.avl b h
   exact{n,z,o,by show Ag H D _ b=some o;rw[ah (ay g l)];exact g,q}
  ·subst h
   exact{bH f l,R.none0 f l,_,aw,(λu z=>by cases z),λf u z=>by cases z}
 slot:=λj s g=>by
  delta Bu at g;rw[AK] at g;have m:∀{A:Addr->Prop},(∀b,A b->¬W.mv b/\¬c.av b)->Bg A (Av (c.avoid λb=>c.av b\/b=D) (L2.pick Y ixs) (Bu Z ixs)) H (Ag H D (.lst [])):=λ{A} f=>
   bG (λb o e _=>by rw[ah (ay e l)];exact e) λb o a e=>{{(f b a).1,eW,λw=>w.elim (f b a).2 (ay e l)},by rw[ah (ay e l)];exact e}
  cases q:ixs[j]? with
  | none=>rw[q] at g;cases g
  | some o=>
    rw[q] at g;have e:(L2.pick Y ixs)[j]?=(ixs[j]?).map (λo=>match o with | some i=>(Y[i]?).join | none=>none):=by
     delta L2.pick;rw[AK]
     all_goals rfl
    rw[e,q];cases o with
    | none=>cases g;trivial
    | some i=>
      have g:(match Z[i]? with | some (.bor d)=>Sl.bor d | some (.own d)=>.bor d | some .hnd=>.hnd | _=>.no)=s:=Option.some.inj g;show Jy _ _ _ (Y[i]?).join s;cases h:Z[i]? with
      | none=>rw[h] at g;cases g;trivial
      | some s'=>
        rw[h] at g;have z:=R.slot i s' h;cases s' with
        | no=>cases g;trivial
        | hnd=>cases g;exact z
        | bor d=>cases g;obtain⟨v,e,f⟩:=z;exact{v,e,f.mono (m λb a=>⟨a.1,a.2.2⟩)}
        | own d=>
          cases g;obtain⟨a,e,n,f,t⟩:=z;refine{.ref a,e,?_};have d:=t.mono (c:=c) (m λb a=>⟨a.1,a.2.2⟩) λo z=>by rw[ah (ay z l)];exact z
          obtain⟨o,a,_⟩:=t.there;exact Top.isTop (c:=c) {n.1,eW,λw=>w.elim n.2 (ay a l)} d
end
def Dm(S:Type)(G:BX)(t:A9 S)(e:Fn S):List D->List D->Ae->S->Ar S (List D)
 | [],acc,_,st=>.ok acc st
 | d::r,acc,Z,st=>(Au (G d Z) st).bind λZ1 st1=>(t Z1 st1).bind λb st2=>if b=true then
    (e Z1 st2).bind λy st3=>if y.imm=true/\acc.length<sizeLine then Dm S G t e r (acc++[y]) Z1 st3 else .bad
   else Dm S G t e r acc Z1 st2
def Gc(S:Type)(fz:List Nat)(ixs:List (Option Nat))(f:FnI S)(G:BX)(t:A9 S)(e:Fn S):Fn S:=λZ st=>(f (frz fz Z) st).bind λl st1=>(Dm S G t e l [] (Bu (frz fz Z) ixs) st1).bind λr st2=>.ok (.lst r) st2
instance DTs(X:Cx){S:Type}{W:Wd S}(c:Dx W)(ifs:List Expr)(t:A9 S):Prop:=PTs X ifs (tDT c t)
def PTs.imp(h:PTs X e t)(i:∀Y H Q,t' Y H Q->t Y H Q):PTs X e t':=λa s Y H Q I q=>h a s Y H Q I (i Y H Q q)
def Ho(S:Type):A9 S:=λ_ st=>.ok true st
def wM{X:Cx}{S:Type}{W:Wd S}{c:Dx W}:DTs X c [] (Ho S):=pU.imp λY H Q ⟨Z,b,R,a,w⟩=>w H Ah.refl a
def wN{X:Cx}{S:Type}{W:Wd S}{c:Dx W}{e:Expr}{t:A9 S}(h:DT X c e t):DTs X c [e] t:=pV h
section
variable{X:Cx}{S:Type}{W:Wd S}{c:Dx W}{N':List Str}{ixs:List (Option Nat)}{scope:Scope}{tg iter elt:Expr}{ifs:List Expr}{f:FnI S}{G:BX}{t:A9 S}{e:Fn S}{pos:Pos}{g:Gr}
instance gEx{S:Type}{W:Wd S}(c:Dx W)(G:BX):TG:=λv Y H Q=>∃av,tG (c.avoid av) G v Y H Q
instance tEx{S:Type}{W:Wd S}(c:Dx W)(t:A9 S):TT:=λY H Q=>∃av,tDT (c.avoid av) t Y H Q
instance eEx{S:Type}{W:Wd S}(c:Dx W)(e:Fn S):TE:=λY H Q=>∃av,tD (c.avoid av) .R e Y H Q
def JA(S:Type){W:Wd S}(c:Dx W)(G:BX)(t:A9 S)(e:Fn S)(l:List D)(A:Addr)(H1:Hp)(Pq:D->S->Prop)(Pe:AG->S->Prop)(i:Nat)(Y2:St)(H2:Hp):Prop:=
 ∃Z2 st2 acc ys,Ax (c.avoid λb=>c.av b\/b=A) H2 Y2 Z2/\(∀b,¬Ow Y2 Z2 b)/\W.ok st2 H2/\Ah W H1 H2/\H2 A=some (.lst ys)/\D.immL acc=true/\aa c.K (λ_=>False) H2 acc ys/\
  Aa ((Dm S G t e (l.drop i) acc Z2 st2).bind λr st2=>.ok (.lst r) st2) Pq Pe
instance cPq(S:Type){W:Wd S}(c:Dx W)(g:Gr)(Y:St)(Z:Ae)(H:Hp)(Q:VK):D->S->Prop:=λd st'=>∀v H',Ah W H H'->W.ok st' H'->BJ c g Y Z H H' d v->Q v H'
instance cPe(S:Type){W:Wd S}(c:Dx W)(H:Hp):AG->S->Prop:=λx st'=>∀H',Ah W H H'->W.ok st' H'->c.Ex x st' H'
def gr{o:HO}{l:List V}(s:C8 o):o≠.lst l:=by
 rintro rfl;rcases s with⟨_,e⟩ | ⟨_,_,e⟩<;>cases e
def jI{o:List Nat}(h:tD c g (Gc S o ixs f G t e) Y H Q):H8 (tI c f) ixs (gEx c G) (tEx c t) (eEx c e) Y H Q:=by
 obtain⟨Z,a,R,b,w⟩:=h;obtain⟨i,d⟩:=R.frz b o;refine{frz o Z,a,i,b,ak (ae.mp w) (λl n q J H1 M a y=>?_) λx n q=>q};have j:=R.ext b M;have d:=i.ext b M;intro A O;have E:¬W.mv A:=bH a O;have hA0:H A=none:=M.none a O;refine{λi m p H2=>i<=l.length/\m=l.length-i/\JA S c G t e l A H1 (cPq S c g Y Z H Q) (cPe S c H) i p H2,{l.length,AF _,rfl,Bu (frz o Z) ixs,n,[],[],d.pick a O ixs,λb=>eW,aL a O,Ah.laid O,aw,rfl,aa.nil.mpr rfl,by rw[List.drop_zero];exact q},?_};intro i m p H2 r;obtain⟨hle,rfl,U,d,j,J,R2,v,B,N,hA2,im,il,w2⟩:=r;have I:Bg (Av c Y (frz o Z)) (Av (c.avoid λb=>c.av b\/b=A) p U) H1 H2:=bG (λb o h tt=>N b o h λm=>by
  obtain⟨o',h',r,s⟩:=W.live n H1 b a m;rw[h] at h';cases h';rcases tt with⟨u,z⟩ | ⟨ob,u,z⟩
  ·exact r u z
  ·exact s ob u z) λb o a h=>{{a.1,v b,λw=>w.elim a.2.2 (ay h O)},N b o h a.1}
 obtain⟨s,h2⟩:=y (c.avoid λb=>c.av b\/b=A) rfl p U H2 d I R2 B i;by_cases C:i<l.length
 ·have p:l[i]?=some l[i]:=AO C
  obtain⟨r,I⟩:=s _ p;rw[List.drop_eq_getElem_cons C] at w2;refine .inr {r,λp H3=>JA S c G t e l A H1 (cPq S c g Y Z H Q) (cPe S c H) (i+1) p H3,λp H3 r=>{l.length-(i+1),Nat.sub_lt_sub_left C (Nat.lt_succ_self i),C,rfl,r},λx H3 y=>?_};obtain⟨P,iv⟩:=I x H3 y;have T:Ah W H2 H3:=P.ext;have s:W.ok d H3:=W.stay d H2 H3 B (λb o _ p=>P b o p) λb o p _=>P b o p
  have R3:=R2.ext (c:=c.avoid λb=>c.av b\/b=A) B T;have w2:Aa (((Au (G l[i] U) d).bind λI n=>(t I n).bind λb d=>if b=true then
   (e I d).bind λy n=>if y.imm=true/\j.length<sizeLine then Dm S G t e (l.drop (i+1)) (j++[y]) I n else .bad
   else Dm S G t e (l.drop (i+1)) j I d).bind λr d=>.ok (.lst r) d) (cPq S c g Y Z H Q) (cPe S c H):=w2
  obtain⟨I,n,Z⟩:=au.mp (ae.mp (ae.mp w2));refine{(λb=>c.av b\/b=A),U,_,I,d,R3,s,iv,n,λY4 U F4=>?_};have Q:∀b,¬Ow Y4 I b:=λb r=>by
   obtain⟨n,_,o,Y,_⟩:=U.owOk r;exact v b (F4.own b o Y n r)
  refine{(λb=>c.av b\/b=A),I,d,U,s,ak (ae.mp Z) (λb v Y H5 r d=>?_) λx v q H5 r d=>q H5 ((M.trans N).trans (T.trans r)) d};have R5:=U.ext (c:=c.avoid λb=>c.av b\/b=A) s r;have hA5:H5 A=some (.lst J):=r A _ (P A _ hA2) E;cases b with
  | false=>
    exact{I,v,j,J,R5,Q,d,N.trans (T.trans r),hA5,im,(il.ext T B λ_ z=>z.elim).ext r s λ_ z=>z.elim,ae.mpr Y}
  | true=>
    refine{(λb=>c.av b\/b=A),I,v,R5,d,ak (ae.mp Y) (λy P q6 v H6 Y U z6=>?_) λx P q H6 Y U=>q H6 ((M.trans N).trans (T.trans (r.trans Y))) U};by_cases hy:y.imm=true/\j.length<sizeLine
    ·rw[if_pos hy] at q6
     have q:H6 A=some (.lst J):=Y A _ hA5 E;have Z:aa c.K (λ_=>False) H6 j J:=((il.ext T B λ_ z=>z.elim).ext r s λ_ z=>z.elim).ext Y d λ_ z=>z.elim
     refine{J,q,by rw[<-Z.length];exact hy.2,I,P,j++[y],J++[v],?_,Q,?_,?_,aw,?_,?_,ae.mpr q6}
     ·-- the slots do not see the list
      have x:=R5.ext (c:=c.avoid λb=>c.av b\/b=A) d Y;have j:∀b,Av (c.avoid λb=>c.av b\/b=A) Y4 I b->b≠A:=λb a z=>a.2.2 (.inr z)
      have k:Bg (Av (c.avoid λb=>c.av b\/b=A) Y4 I) (Av (c.avoid λb=>c.av b\/b=A) Y4 I) H6 (Ag H6 A (.lst (J++[v]))):=bG (λb o h tt=>by
       have p:b≠A:=ci h q (gr tt);rw[ah p];exact h) λb o a h=>{a,by rw[ah (j b a)];exact h}
      refine{x.len,λb o h n=>?_,λj s hs=>?_,λb h=>?_,x.uniq}
      ·have p:b≠A:=ay h (x.avl A (.inr rfl)).2.1
       rw[ah p];exact x.frame b o h n
      ·have I:=x.slot j s hs
       cases s with
       | no=>trivial
       | bor d=>obtain⟨v',M,i1⟩:=I;exact{v',M,i1.mono k}
       | own d=>obtain⟨a,ea,_,_,_⟩:=I;exact(Q a {j,d,hs,bb ea}).elim
       | hnd=>exact I
      ·obtain⟨n,z,o,h',d⟩:=x.avl b h
       by_cases p:b=A
       ·exact{n,z,_,(congrArg (Ag H6 A _) p).trans aw,(λu z=>by cases z),λob u z=>by cases z}
       ·exact{n,z,o,by rw[ah p];exact h',d}
     ·refine W.stay P H6 _ U (λb o m h=>?_) λb o h s=>?_
      ·have p:b≠A:=λz=>E (z▸m)
       rw[ah p];exact h
      ·have p:b≠A:=ci h q (gr s)
       rw[ah p];exact h
     ·intro b o h n
      have p:b≠A:=ay h O;rw[ah p];exact((N.trans (T.trans (r.trans Y))) b o h n)
     ·exact bI im (by simp[D.immL,hy.1])
     ·have d:Is c.K (λ_=>False) H6 y v:=Is.ofImm hy.1 z6
      have j:Bg (λ_=>False) (λ_=>False) H6 (Ag H6 A (.lst (J++[v]))):=bG (λb o h tt=>by
       have p:b≠A:=ci h q (gr tt);rw[ah p];exact h) λb o a h=>a.elim
      exact(Z.append (aa.one d)).mono j
    ·rw[if_neg hy] at q6;exact q6.elim
 ·have a:i=l.length:=Fm hle (EE C)
  rw[a,List.drop_length] at w2;refine .inl {h2 (BQ a.symm),w2 (.ref A) H2 (M.trans N) B (AB.val R ?_ g)};exact Is.lst ⟨E,hA0⟩ hA2 (aa.ofImm im il)
def wO(i:List Nat)(j:E6 X N' ixs scope)(n:X.calm=true)(m:DI X c tg iter f)(d:∀a b C s H h,DG (B2 X N' scope b C s H h) (c.avoid a) tg G/\DTs (B2 X N' scope b C s H h) (c.avoid a) ifs t/\DE (B2 X N' scope b C s H h) (c.avoid a) .R elt e)(l:autoParam (∀x,foldedSetIterable iter X.env x=pure x) Nb._auto_1):DE X c g (.ListComp elt [⟨tg,iter,ifs,0⟩] scope pos) (Gc S i ixs f G t e):=
 (pW (g:=gEx c G) (tc:=tEx c t) (te:=eEx c e) j n m (λb C s H h=>
  {λi s' Y j v u Q I r ⟨a,q⟩=>(d a b C s H h).1 i s' Y j v u Q I r q,λi s' Y j Q I ⟨a,q⟩=>(d a b C s H h).2.1 i s' Y j Q I q,λi s' Y j Q I ⟨a,q⟩=>(d a b C s H h).2.2 i s' Y j Q I q}) l).imp λY H Q q=>jI (g:=g) q
def wP{i:Nat}{y:Str}{n b:Pos}(r:List Nat)(q:E6 X N' ixs scope)(u:X.calm=true)(v:X.N.Nodup)(m:X.N[i]?=some y)(o:X.env.scope.names.lookup y=some .local)(z:DI X c tg iter f)(d:∀a j C s H h,DG (B2 X N' scope j C s H h) (c.avoid a) tg G/\DTs (B2 X N' scope j C s H h) (c.avoid a) ifs t/\DE (B2 X N' scope j C s H h) (c.avoid a) .R elt e)(l:swapsWith (.ListComp elt [{tg,iter,ifs,0}] scope pos) (some (.Name y n)) b.line X.env=pure true)(p:autoParam (∀x,foldedSetIterable iter X.env x=pure x) Nb._auto_1):DS X c (.Assign [.Name y n] (.ListComp elt [⟨tg,iter,ifs,0⟩] scope pos) b) (FO S i (Gc S r ixs f G t e)):=
 (pX (g:=gEx c G) (tc:=tEx c t) (te:=eEx c e) q u v m o z (λj C s H h=>
  {λb s' Y i v u Q I r ⟨a,q⟩=>(d a j C s H h).1 b s' Y i v u Q I r q,λb s' Y i Q I ⟨a,q⟩=>(d a j C s H h).2.1 b s' Y i Q I q,λb s' Y i Q I ⟨a,q⟩=>(d a j C s H h).2.2 b s' Y i Q I q}) l p).imp λD Y H q=>jI (g:=.F) (jG q)
def CJ(S:Type)(t:A9 S)(B:Ay S):Nat->Ay S
 | 0,_,_=>.bad
 | n+1,Z,st=>(t Z st).bind λb st1=>if b=true then (B Z st1).bind λfl st2=>match fl with
    | .nx Z2=>CJ S t B n Z2 st2
    | .ct Z2=>CJ S t B n Z2 st2
    | .bk Z2=>.ok (.nx Z2) st2
    | .rt d=>.ok (.rt d) st2
   else .ok (.nx Z) st1
open Classical in
def FQ(S:Type)(t:A9 S)(B:Ay S):Ay S:=λZ st=>if h:∃n,CJ S t B n Z st≠.bad then CJ S t B h.choose Z st else .bad
theorem eX:∀(n k:Nat) (Z:Ae) (a:S),CJ S t B n Z a≠.bad->CJ S t B (n+k) Z a=CJ S t B n Z a
 | 0,_,_,_,h=>(h rfl).elim
 | n+1,k,Z,a,h=>by
   rw[show n+1+k=(n+k)+1 by omega];unfold CJ at h ⊢;cases q:t Z a with
   | bad=>rfl
   | exc x s=>rfl
   | ok b l=>
     rw[q] at h;simp only[Ar.bind_ok] at h ⊢;cases b with
     | false=>rfl
     | true=>
       simp only[if_true] at h ⊢;cases o:B Z l with
       | bad=>rfl
       | exc x s=>rfl
       | ok m i=>
         rw[o] at h;simp only[Ar.bind_ok] at h ⊢;cases m with
         | nx j=>exact eX n k j i h
         | ct j=>exact eX n k j i h
         | bk j=>rfl
         | rt d=>rfl
def jJ{t:A9 S}{B:Ay S}{n:Nat}{Z:Ae}{a:S}(h:CJ S t B n Z a≠.bad):FQ S t B Z a=CJ S t B n Z a:=by
 delta FQ;have b:∃n,CJ S t B n Z a≠.bad:=⟨n,h⟩;rw[dif_pos b];have i:=eX n b.choose Z a h;have d:=eX b.choose n Z a b.choose_spec;rw[Cq] at d;exact d.symm.trans i
def wQ{a:Expr}{b:List Stmt}{t:A9 S}{B:Ay S}(d:PassesOwn 'e' X.A X.env X.xe)(h:DT X c a t)(i:Ce X c b B):DS X c (.While a b [] pos) (FQ S t B):=
 (n7 d h i).imp λD Y H hI26=>by
  obtain⟨Z,b,R,j,w⟩:=hI26;have d:∃n,CJ S t B n Z b≠.bad:=by
   apply Classical.byContradiction;intro h;delta FQ at w;rw[dif_neg h] at w;exact w
  obtain⟨n,a⟩:=d;rw[jJ a] at w;refine{λm l H2=>∃i a,Ax c H2 l i/\W.ok a H2/\Aa (CJ S t B m i a) (Dj c D l i H2) (D3 c),⟨n,Z,b,R,j,w⟩,?_};rintro m l H2 ⟨i,a,R2,h,d⟩;cases m with
  | zero=>exact d.elim
  | succ m=>
    refine{i,a,R2,h,ak (ae.mp d) (λb p s H3 o d=>?_) λx p q H3 o d=>q H3 (o.f0 R2) d};have r:=R2.ext h o;cases b with
    | false=>exact s l H3 o.frm d r
    | true=>
      refine cV ?_;refine{λn h=>∃j a,Ax c h n j/\W.ok a h/\Aa (CJ S t B m j a) (Dj c D n j h) (D3 c),λn h q=>{m,Nat.lt_succ_self m,q},i,p,r,d,ak (ae.mp s) (λr a p=>?_) λx a q=>q};have d:∀b,Aa (CJ S t B m b a) (Dj c D l i H2) (D3 c)->Nx c (λn h=>∃j a,Ax c h n j/\W.ok a h/\Aa (CJ S t B m j a) (Dj c D n j h) (D3 c)) l i H3 b a:=
       λb n m H5 i h j=>{b,a,j,h,ak n (λr l q=>q.from (o.frm.trans i)) λx l q=>q}
      cases r with
      | nx b=>exact d b p
      | ct b=>exact d b p
      | bk b=>exact λm H5 i h j=>p m H5 (o.frm.trans i) h j
      | rt d=>exact p
end
def BY(n:Nat)(l:List D):Ae:=l.map Sl.bor++List.replicate (n-l.length) .no
def BO(n:Nat)(l:List D):Ae:=Sl.hnd::(l.map Sl.bor++List.replicate (n-1-l.length) .no)
def Ih{S:Type}(r:Ar S Fl):Ar S D:=match r with
 | .ok (.rt d) st=>.ok d st
 | .ok (.nx _) st=>.ok .non st
 | .ok _ _=>.bad
 | .exc x st=>.exc x st
 | .bad=>.bad
def BC(n p:Nat)(B:Ay Unit):List D->Ar Unit D:=λl=>if l.length=p/\p<=n then Ih (B (BY n l) ()) else .bad
def D5{S:Type}(n p:Nat)(B:Ay S):List D->S->Ar S D:=λl st=>if l.length+1=p/\p<=n then Ih (B (BO n l) st) else .bad
abbrev D0(K:FG)(H:Hp):Dx W0:={K,H,λ_ _ _=>False,λ_=>False}
abbrev DL{S:Type}(W:Wd S)(K:FG)(H:Hp):Dx W:={K,H,λ_ _ _=>False,λ_=>False}
def dO{n:Nat}{i:Nat}(h:(BY n l)[i]?=some s):(∃d,s=.bor d/\l[i]?=some d)\/s=.no:=by
 delta BY at h;by_cases a:i<l.length
 ·rw[EW (by rw[Ai];exact a),AK] at h
  cases q:l[i]? with
  | none=>rw[q] at h;cases h
  | some d=>rw[q] at h;cases h;exact .inl ⟨d,rfl,rfl⟩
 ·rw[G7 (by rw[Ai];omega),Hc] at h
  split at h
  ·cases h;exact .inr rfl
  ·cases h
def dP{i:Nat}(h:a[i]?=some v):(B8 N a)[i]?=some (some v):=by
 delta B8;have b:i<a.length:=(AQ.mp h).1;rw[EW (by rw[Ai];exact b),AK,h];rfl
open H in
def qs{K:FG}{H:Hp}{N:List Str}{l:List D}{f:List V}(a:l.length<=N.length)(h:aa K (λ_=>True) H l f):Ax (D0 K H) H (B8 N f) (BY N.length l):=by
 have n:∀b,¬Ow (B8 N f) (BY N.length l) b:=λb hI27=>by
  obtain⟨i,d,c,_⟩:=hI27;rcases dO c with⟨_,z,_⟩ | z<;>cases z
 refine{?_,λb o e _=>e,λi s g=>?_,λb z=>z.elim,λi j a d e c _ _ _=>?_}
 ·delta B8 BY
  rw[A7,A7,Ai,Ai,Gw,Gw,h.length]
 ·rcases dO g with⟨d,rfl,a⟩ | rfl
  ·obtain⟨v,d,e⟩:=h.get a
   exact{v,by rw[dP d];rfl,e.mono {λ_ _ z _=>z,λb o _ z=>{{λm=>m,n b,λm=>m},z}}}
  ·trivial
 ·rcases dO c with⟨_,z,_⟩ | z<;>cases z
section
variable{P:Program}{w:World}{K:FG}{mg:Str->Option Value}{base:Heap}
open H in
def CF.d0{x b:Str}{g:Stmt}{f:Addr}{e:FuncData}{N d:List Str}{k:Nat}{B:Ay Unit}(F:CF K x b g f e)(S:C5 N d (AM g))(j:∀(c:Value) (A:Around) (a:List Env) (s:Shared) (H:Hp) (E:XK),AT k (A.deeper (envOfC b (AM g) s.heap.objs.size f c))->
  Ce (CI CX0 P w K mg base N b (AM g) f c A a s H E).nox (D0 K H) (B9 g) B):Cs P w K mg base CX0 (k+1) f e d (sp0 K (BC N.length d.length B)):=by
 refine F.ok S (λb H Q E h=>?_) λc A a s H b Q E d h=>?_
 ·obtain⟨l,i,w⟩:=h
  delta BC at w;split at w
  ·rename_i b
   rw[<-i.length];exact b.1
  ·exact w.elim
 ·obtain⟨l,i,w⟩:=h
  delta BC at w;split at w
  ·rename_i b
   refine{_,j c A a s H E d,BY N.length l,(),qs 'o' i,trivial,?_};cases q:B (BY N.length l) () with
   | bad=>rw[q] at w;exact w.elim
   | exc x u=>rw[q] at w;exact w.elim
   | ok h u=>
     rw[q] at w;have fin:∀d v c,F0 (D0 K H) c->Is K (λb=>¬W0.mv b/\H b=none) c d v->(∀v c,Ci H c->Is K (λb=>H b=none) c d v->Q v c)->Q v c:=λd v c f z q=>
      q v c (λb o e=>f b o e λm=>m) (z.mono {λ_ _ z _=>z,λb o a z=>⟨a.2,z⟩})
     cases h with
     | rt d=>exact λv c f _ z=>fin d v c f z w
     | nx Z=>exact λd c f _ a=>fin .non .non c (λb o e n=>a.frame b o e n) (Is.non_iff.mpr rfl) w
     | bk Z=>exact w.elim
     | ct Z=>exact w.elim
  ·exact w.elim
open H in
def CF.dS{Sx:Type}{W:Wd Sx}{x qual:Str}{st:Stmt}{f:Addr}{fd:FuncData}{N ps:List Str}{k:Nat}{B:Ay Sx}(F:CF K x qual st f fd)(S:C5 N ps (AM st))(hb:∀(cdv:Value) (A:Around) (outer:List Env) (s:Shared) (H:Hp) (E:XK),AT k (A.deeper (envOfC qual (AM st) s.heap.objs.size f cdv))->
  Ce (CI CX0 P w K mg base N qual (AM st) f cdv A outer s H E).nox (DL W K H) (B9 st) B):Cs P w K mg base CX0 (k+1) f fd ps (spS W K (D5 N.length ps.length B)):=by
 refine F.ok S (λvs H Q E h=>?_) λcdv A outer s H vs Q E hr h=>?_
 ·obtain⟨l,us,st0,rfl,i,ok,w⟩:=h
  unfold D5 at w;split at w
  ·rename_i hl
   rw[CD,<-i.length];exact hl.1
  ·exact w.elim
 ·obtain⟨l,us,st0,rfl,i,ok,w⟩:=h
  unfold D5 at w;split at w
  ·rename_i hl
   have no:∀b,¬Ow (B8 N (W.h::us)) (BO N.length l) b:=λb hI28=>by
    obtain⟨j,d,h1,_⟩:=hI28;unfold BO at h1;cases j with
    | zero=>cases h1
    | succ j=>
      have h1:(l.map Sl.bor++List.replicate (N.length-1-l.length) .no)[j]?=some (.own d):=by simpa using h1
      rcases dO (n:=N.length-1) h1 with⟨_,z,_⟩ | z<;>cases z
   have R:Ax (DL W K H) H (B8 N (W.h::us)) (BO N.length l):=by
    refine{?_,λb o e _=>e,λj s hs=>?_,λb z=>z.elim,λj j' a d e h1 _ h3 _=>(no a ⟨j,d,h1,h3⟩).elim}
    ·unfold B8 BO
     simp only[A7,CD,Ai,Gw];have:=i.length;omega
    ·unfold BO at hs
     cases j with
     | zero=>cases hs;exact by rw[dP (v:=W.h) rfl];rfl
     | succ j=>
       have hs:(l.map Sl.bor++List.replicate (N.length-1-l.length) .no)[j]?=some s:=by simpa using hs
       rcases dO (n:=N.length-1) hs with⟨d,rfl,hd⟩ | rfl
       ·obtain⟨v,hv,iv⟩:=i.get hd
        exact{v,by rw[dP (v:=v) (by simpa using hv)];rfl,iv.mono {λ_ _ z _=>z,λb o a z=>{{a,no b,λm=>m},z}}}
       ·trivial
   refine{_,hb cdv A outer s H E hr,BO N.length l,st0,R,ok,?_};cases q:B (BO N.length l) st0 with
   | bad=>rw[q] at w;exact w.elim
   | exc x u=>rw[q] at w;exact w.elim
   | ok fl u=>
     rw[q] at w;cases fl with
     | rt d=>exact λv H' f0 ok' z=>w v H' f0 ok' z
     | nx Z=>exact λY' H' fr ok' R'=>w .non H' (λb o e n=>R'.frame b o e n) ok' (Is.non_iff.mpr rfl)
     | bk Z=>exact w.elim
     | ct Z=>exact w.elim
  ·exact w.elim
end
structure Cv(P:Program)(w:World)(K:FG)(mg:Str->Option Value)(base:Heap)(k:Nat)(x:Str)(ps:List Str)(sp:Sp):Prop where
 ex:∃f fd,mg x=some (.ref f)/\keepIn K (.ref f)=true/\Ga K fd ps []/\Cs P w K mg base CX0 k f fd ps sp
section
variable{X:Cx}{S:Type}{W:Wd S}{c:Dx W}{g:Gr}{k:Nat}{x:Str}{ps:List Str}{p pos:Pos}{e:Expr}{es:List Expr}
def wR{G:List D->Ar Unit D}{f:Ba S}(C:Cv X.prog X.w X.K X.mg X.base k x ps (sp0 c.K G))(j:AT k X.A)(h:Gl X x)(i:DA X c (e::es) f)(b:autoParam 'u' uD)(m:autoParam 's' uR)(a:autoParam 'i' uR):DE X c g (.Call (.Name x p) (e::es) [] pos) (GF S G f):=by
 obtain⟨o,n,l,d,f,F⟩:=C.ex;exact(eR (E:=E0) F j h l d f .nil eS i b m a).imp λY H Q q=>qk q
def wS{G:List D->S->Ar S D}{f:Ba S}{i:Nat}{y:Str}{a:Pos}(C:Cv X.prog X.w X.K X.mg X.base k x ps (spS W c.K G))(n:AT k X.A)(l:Gl X x)(j:PE X (.Name y a) (B1 i))(m:DA X c es f)(d:autoParam 'u' uD)(h:autoParam (starEach (.Name y a::es) X.env=(false,eval (.Name y a) X.env)::starEach es X.env) uR)(b:autoParam 'i' uR):DE X c g (.Call (.Name x p) (.Name y a::es) [] pos) (GG S G i f):=by
 obtain⟨q,o,i,a,f,F⟩:=C.ex;exact(eR (E:=E0) F n l i a f .nil eS (aX j m h) d h b).imp λY H Q q=>qm q
end
section
variable{S:Type}
def bP{i:Int}:AB c H H' (.int i) (.int i):=Is.int_iff.mpr rfl
def bh{i:Bool}:AB c H H' (.bl i) (.bl i):=Is.bl_iff.mpr rfl
instance iOp(C:Int->Int->Prop)[∀i j,Decidable (C i j)](g:Int->Int->D):D->D->Option D
 | .int i,.int j=>if C i j then some (g i j) else none
 | _,_=>none
def AU(g:Int->Int->D):D->D->Option D
 | .int i,.int j=>some (g i j)
 | _,_=>none
open H in
def qt{C:Int->Int->Prop}[∀i j,Decidable (C i j)]{g:Int->Int->Int}:Bx c (rI C λi j=>.int (g i j)) (iOp C λi j=>.int (g i j)):=by
 intro a c b e H f d Q a c b e q;delta iOp at e;split at e
 ·rename_i i j
  split at e
  ·rename_i h
   cases e;exact{i,j,Is.int_iff.mp c,Is.int_iff.mp b,h,q _ H Ah.refl a bP}
  ·cases e
 ·cases e
open H in
def qu{g:Int->Int->Int}:Bx c (Ei λi j=>.int (g i j)) (AU λi j=>.int (g i j)):=by
 intro a c b e H f d Q a c b e q;delta AU at e;split at e
 ·rename_i i j
  cases e;exact{i,j,Is.int_iff.mp c,Is.int_iff.mp b,q _ H Ah.refl a bP}
 ·cases e
open H in
def wT{g:Int->Int->Bool}:Bx c (Ei λi j=>.bl (g i j)) (AU λi j=>.bl (g i j)):=by
 intro a c b e H f d Q a c b e q;delta AU at e;split at e
 ·rename_i i j
  cases e;exact{i,j,Is.int_iff.mp c,Is.int_iff.mp b,q _ H Ah.refl a bh}
 ·cases e
theorem Bx.or(h:Bx c r o)(n:Bx c r' o'):Bx c (λx y H Q=>r x y H Q\/r' x y H Q) (λa b=>(o a b).or (o' a b)):=by
 intro f c l j H b d Q m i g e q;cases a:o f c with
 | some d'=>
   have e:some d'=some d:=by simpa [a] using e
   cases e;exact .inl (h f c l j H b d Q m i g a q)
 | none=>
   have e:o' f c=some d:=by simpa [a] using e
   exact .inr (n f c l j H b d Q m i g e q)
@[reducible]instance (i j:Int):Decidable (F9 i j):=by delta F9;infer_instance
@[reducible]instance (i j:Int):Decidable (DR i j):=by delta DR;infer_instance
@[reducible]instance (i j:Int):Decidable (HU i j):=by delta HU;infer_instance
@[reducible]instance (i j:Int):Decidable (Jp i j):=by delta Jp;infer_instance
def AR:D->D->Option D
 | .tup l,.int i=>im (BG l i)
 | .lst l,.int i=>im (BG l i)
 | _,_=>none
def gt{K:FG}{A:Addr->Prop}{H:Hp}{l:List D}{a:List V}{i:Int}{d:D}(z:aa K A H l a)(h:BG l i=some d):∃v,BG a i=some v/\Is K A H d v:=by
 delta BG at h ⊢;rw[<-z.length];cases q:CQ l.length i with
 | none=>rw[q] at h;cases h
 | some j=>
   rw[q] at h;exact z.get (i:=j) h
def eY(h:im o=some d):o=some d/\d.imm=true:=by
 cases o with
 | none=>cases h
 | some x=>
   have h:(if x.imm=true then some x else none)=some d:=h;split at h
   ·cases h;exact{rfl,by assumption}
   ·cases h
open H in
def jK{K:FG}(n:c.K=K):Bx c (rIx K) AR:=by
 intro f e c b H a d Q j h g e q;delta AR at e;split at e
 ·rename_i l i
  obtain⟨a,d,b,s,z⟩:=Is.tup_sq h;obtain⟨e,m⟩:=eY e;obtain⟨v,c,f⟩:=gt z e;exact .inr (.inl {a,d,i,v,b,Is.int_iff.mp g,n▸s,c,q v H Ah.refl j (AB.imm m f)})
 ·rename_i l i
  obtain⟨a,d,b,n,s,z⟩:=Is.lst_iff.mp h;obtain⟨e,m⟩:=eY e;obtain⟨v,c,f⟩:=gt z e;exact .inl {a,d,i,v,b,Is.int_iff.mp g,.of s,c,q v H Ah.refl j (AB.imm m f)}
 ·cases e
end
section
variable{X:Cx}{S:Type}{W:Wd S}{c:Dx W}{H H':Hp}{Y:St}{Z:Ae}{st:S}{i:Nat}{d d':D}{a:Addr}{o:HO}
open H in
def jL(h:Z[i]?=some (.own d))(b:Addr):Ow Y (Z.set i (.own d')) b↔Ow Y Z b:=by
 have g:i<Z.length:=(AQ.mp h).1;constructor
 ·rintro ⟨j,e,f,b⟩
  rcases aH f with⟨m,_⟩ | ⟨_,z⟩
  ·subst m;exact⟨j,d,h,b⟩
  ·exact⟨j,e,z,b⟩
 ·rintro ⟨j,e,f,b⟩
  by_cases m:j=i
  ·subst m;exact{j,d',He g,b}
  ·exact{j,e,by rw[DD (Ne.symm m)];exact f,b}
open H in
def Ax.wr(R:Ax c H Y Z)(p:Z[i]?=some (.own d))(r:Y[i]?=some (some (.ref a)))(ht:(∀u,o≠.tup u)/\∀B u,o≠.frz B u)(h:Bg (Av c Y Z) (Av c Y Z) H (Ag H a o)->Top c.K (Av c Y Z) (Ag H a o) d' a):Ax c (Ag H a o) Y (Z.set i (.own d'))/\Bj c H Y Z (Ag H a o) Y (Z.set i (.own d')):=by
 have N:i<Z.length:=(AQ.mp p).1;have C:Ow Y Z a:=⟨i,d,p,r⟩;obtain⟨nm,h0,o1,ho,n1,n2⟩:=R.owOk C;have k:Bg (Av c Y Z) (Av c Y Z) H (Ag H a o):=bG (λb u e t=>by
  have l:b≠a:=λz=>by
   subst z;rw[ho] at e;cases e;rcases t with⟨w,z⟩ | ⟨B,w,z⟩
   ·exact n1 w z
   ·exact n2 B w z
  rw[ah l];exact e) λb u G e=>{G,by rw[ah (λ(z:b=a)=>G.2.1 (z▸C))];exact e}
 have x:Av c Y (Z.set i (.own d'))=Av c Y Z:=by
  funext b;delta Av;rw[jL (Y:=Y) (d':=d') p b]
 have T:=h k;refine{{by rw[EF];exact R.len,λb u e n=>?_,λj s hs=>?_,λb l=>?_,λj E b e e' y h2 M h4=>?_},{λb u e n w=>?_,λb u e n w=>(jL p b).mp w}}
 ·have l:b≠a:=λz=>by subst z;rw[show c.H0 b=none from h0] at e;cases e
  rw[ah l];exact R.frame b u e n
 ·rw[x]
  rcases aH hs with⟨m,z⟩ | ⟨O,z⟩
  ·subst z m
   obtain⟨b,g,n,f,t⟩:=R.slot j _ p;rw[r] at g;have g:some (V.ref a)=some (V.ref b):=g;cases g;exact{a,by rw[r];rfl,n,f,T}
  ·have q:=R.slot j s z
   cases s with
   | no=>trivial
   | bor e=>obtain⟨v',g,P⟩:=q;exact{v',g,P.mono k}
   | own e=>
     obtain⟨b,g,n,f,t⟩:=q;have l:b≠a:=λz'=>by
      subst z';exact O (R.uniq j i b e d z p (bb g) r)
     exact{b,g,n,f,t.mono k λu z=>by rw[ah l];exact z}
   | hnd=>exact q
 ·obtain⟨n,z,u,h',q⟩:=R.avl b l
  have A:b≠a:=λz'=>by
   subst z';obtain⟨U,g,I,_⟩:=R.slot i _ p;rw[r] at g;have g:some (V.ref b)=some (V.ref U):=g;cases g;exact I.2 l
  exact{n,z,u,by rw[ah A];exact h',q}
 ·have v:∀(j:Nat) (e:D),(Z.set i (.own d'))[j]?=some (.own e)->∃e',Z[j]?=some (.own e'):=λj e y=>by
   rcases aH y with⟨m,_⟩ | ⟨_,z⟩
   ·subst m;exact⟨d,p⟩
   ·exact⟨e,z⟩
  obtain⟨J,y1⟩:=v j e y;obtain⟨x2,Q⟩:=v E e' h2;exact R.uniq j E b J x2 y1 Q M h4
 ·have l:b≠a:=λz=>w (z▸C)
  rw[ah l];exact e
def Bc(Z:Ae)(i:Nat):Option (List D):=match Z[i]? with
 | some (.own (.lst l))=>if D.immL l=true then some l else none
 | _=>none
def gu(h:Bc Z i=some l):Z[i]?=some (.own (.lst l))/\D.immL l=true:=by
 delta Bc at h;split at h
 ·split at h
  ·cases h;exact{by assumption,by assumption}
  ·cases h
 ·cases h
def eZ(h:Bc Z i=some l):Z[i]?=some (.own (.lst l)):=(gu h).1
def Ax.lstAt(R:Ax c H Y Z)(h:Bc Z i=some l):∃a b,Y[i]?=some (some (.ref a))/\H a=some (.lst b)/\aa c.K (Av c Y Z) H l b/\¬W.mv a:=by
 obtain⟨a,e,n,f,b,g,z⟩:=R.slot i _ (eZ h);exact{a,b,bb e,g,z,n.1}
def bY(f:W.ok st H)(n:¬W.mv a)(e:H a=some u)(ns:¬C8 u:=by (intro s;rcases s with⟨_,e⟩ | ⟨_,_,e⟩<;>cases e)):W.ok st (Ag H a o):=W.stay st H _ f (λb u m e=>by rw[ah (λ(z:b=a)=>n (z▸m))];exact e) λb u h s=>by
 rw[ah (λ(z:b=a)=>by subst z;rw[e] at h;cases h;exact ns s)];exact h
instance sMt(S:Type)(i:Nat)(o:List D->D->Option (List D))(f:Fn S):Ay S:=λZ st=>match Bc Z i with
 | some l=>(f Z st).bind λd st1=>(Au (o l d) st1).bind λl' st2=>.ok (.nx (Z.set i (.own (.lst l')))) st2
 | none=>.bad
instance MtD{S:Type}{W:Wd S}(c:Dx W)(r:V->List V->Hp->VK->Prop)(o:List D->D->Option (List D)):Prop:=∀l d l' a vs v H (Q:VK),o l d=some l'->H a=some (.lst vs)->aa c.K 'w' H l vs->Is c.K 'w' H d v->
 (∀us,(D.immL l=true->D.immL l'=true/\aa c.K 'w' H l' us)->Q .non (Ag H a (.lst us)))->r (.ref a) [v] H Q
def wU{x m:Str}{b:String}{e:Expr}{f:Fn S}{j q l v:Pos}{r:V->List V->Hp->VK->Prop}{o:List D->D->Option (List D)}(z:MtR X b r)(A:MtD c r o)(p:Slot "list" m b)(s:typeOf (.builtin b)=pure (.type "method_descriptor"))(y:PE X (.Name x j) (B1 i))(B:DE X c .R e f)(b:c.K=X.K)(g:autoParam (attributeBase (.Name x j) m X.env (eval (.Name x j) X.env)=eval (.Name x j) X.env) uR)(n:autoParam (((backTo l (starEach [e] X.env)).all (λx=>!x.1)&&(backToKw l (keywordEach [] X.env)).all (λx=>x.1.isSome)
  && decide (([e]:List Expr).length+([]:List Keyword).length+(if ([]:List Keyword).isEmpty then 0 else 1)<30))=true) uR)(h:autoParam ((q.endLine == l.line)=true) uR)(u:autoParam (starEach [e] X.env=(false,eval e X.env)::starEach [] X.env) uR)(b:autoParam ((backTo l (starEach [] X.env)).any (·.1)=false) uR)(r:autoParam (swapsWith (.Call (.Attribute (.Name x j) m q) [e] [] l) none v.line X.env=pure false) uR) :
 DS X c (.Expr (.Call (.Attribute (.Name x j) m q) [e] [] l) v) (sMt S i o f):=
 (fT (pa PySem.F.plainAttrs_list p s z y (aX B bt u) g n h u b) r).imp λD Y H hI29=>by
  obtain⟨Z,st,R,h,w⟩:=hI29;delta sMt at w;cases q:Bc Z i with
  | none=>rw[q] at w;exact w.elim
  | some l=>
    rw[q] at w;obtain⟨a,n,j,m,z,p⟩:=R.lstAt q;refine{.ref a,j,.inl {rfl,n,.of m},Z,st,R,h,ak (ae.mp w) (λd b q v H1 e f u=>?_) λx b q H1 e f=>q H1 (e.f0 R) f};obtain⟨r,e',s⟩:=au.mp (ae.mp q);have x:=R.ext h e;have g:=e a _ m p;have q:Bg (Av c Y Z) 'w' H1 H1:={λ_ _ z _=>z,λb o a z=>⟨a.1,z⟩};refine A l d r a n v H1 _ e' g (aa.mono q (z.mono (e.keepT h λb a=>⟨a.1,a⟩))) u λus b=>?_
    obtain⟨m',z'⟩:=b (gu (by assumption)).2;obtain⟨R2,b⟩:=x.wr (d':=.lst r) (o:=.lst us) (eZ (by assumption)) j {(λu z=>by cases z),(λh u z=>by cases z)} λk=>{us,aw,aa.mono k (aa.ofImm m' z')}
    exact s Y _ (e.frm.trans b) (bY f p g) R2
def Hr(l:List D)(d:D):Option (List D):=if d.imm=true/\l.length<sizeLine then some (l++[d]) else none
def Hs(l:List D)(d:D):Option (List D):=match d with
 | .lst m=>if D.immL m=true/\l.length+m.length<=sizeLine then some (l++m) else none
 | _=>none
open H in
def wV:MtD c Jv Hr:=by
 intro l d g a f v H Q e b z g q;delta Hr at e;split at e
 ·rename_i h
  cases e;refine{a,f,v,rfl,rfl,b,by rw[<-z.length];exact h.2,q _ λm=>{bI m (by simp[D.immL,h.1]),z.append (aa.one g)}}
 ·cases e
open H in
def wW:MtD c Jw Hs:=by
 intro l d b a m v H Q e g z j q;delta Hs at e;split at e
 ·rename_i n
  split at e
  ·rename_i h
   cases e;obtain⟨b,us,n,p,l,f⟩:=Is.lst_iff.mp j;subst n;refine{a,b,m,us,rfl,rfl,g,l,by rw[<-z.length,<-f.length];exact h.2,q _ λm=>{bI m h.1,z.append f}}
  ·cases e
 ·cases e
end
def Ii(N:List Str)(osc:Scope)(N':List Str)(ixs:List (Option Nat))(scope:Scope):Bool:=
 decide (scope.kind=.function)&&scope.names.all (λy=>decide (y.2≠.cell))&&scope.names.all (λy=>decide (y.2=.local->scope.names.lookup y.1=some .local))&&decide (ixs.length=N'.length) &&
 scope.names.all (λy=>decide (y.2=.free->osc.names.lookup y.1=some .cell\/osc.names.lookup y.1=some .free)) &&
 (List.range N'.length).all (λj=>match N'[j]?,ixs[j]? with
  | some y,some (some i)=>decide (N[i]?=some y)&&decide (scope.names.lookup y=some .free)
  | _,_=>true)
def Ii.scope{X:Cx}{N:List Str}{osc:Scope}{a:List Str}{ixs:List (Option Nat)}{scope:Scope}(h:Ii N osc a ixs scope=true)(l:autoParam (X.N=N) uR)(g:autoParam (X.env.scope=osc) uR):E6 X a ixs scope:=by
 delta Ii at h;simp only[Bool.and_eq_true,decide_eq_true_eq,List.all_eq_true] at h;obtain⟨⟨⟨⟨⟨b,j⟩,e⟩,i⟩,d⟩,f⟩:=h;refine{b,j,e,i,λy c h=>by rw[g];exact d y c h,λj i y b d=>?_};have c:j<a.length:=(AQ.mp b).1;have q:=f j (DY.mpr c);rw[b,d] at q;simp only[Bool.and_eq_true,decide_eq_true_eq] at q;exact{by rw[l];exact q.1,q.2}
end L2
namespace PySem
open H in
def qv(l:Addr)(a:Array Value)(n:Nat)(b:Option Addr)(c:Array (Option Value)) :
 Meets (Builtin.«enumerate.__new__» {[.type "enumerate",.ref l],[]}) (λ_ R s=>s.heap.get? l=some { cls:=.type "tuple",dict:=b,data:=.seq a n,slots:=c }/\
  R (.ok (.ret (.ref (s.heap.push { cls:=.type "tuple_iterator",data:=.fields #[.ref l,.int 0 0] }).objs.size)))
    { s with heap:=(s.heap.push { cls:=.type "tuple_iterator",data:=.fields #[.ref l,.int 0 0] }).push { cls:=.type "enumerate",data:=.fields #[.none,.bool false,.ref s.heap.objs.size,rawInt 0,.none,.none] } }):=
 .of_wp λprog w A R s h=>by
  obtain⟨f,g,d,j,i⟩:=s;obtain⟨b,h⟩:=h;have c:=sub_enumerate;have e:Heap.IsTuple (Shared.heap ⟨f,g,d,j,i⟩) l a:={_,b,rfl,n,rfl}
  wp_walk using wpAny_loadPart' b
  refine wpAny_stack_any λa=>Ao ?_
  split
  ·rename_i c _ _ _ _ _
   cases (c == Value.type "enumerate")<;>(wp_walk using wpAny_loadPart' b,wpAny_pyIter_tuple e;exact{_,rfl,h})
  ·(wp_walk using wpAny_loadPart' b,wpAny_pyIter_tuple e;exact{_,rfl,h})
def qw(j:s.heap.IsTuple l items)(h:∀a,IsEnum a (s.heap.objs.size+1) s.heap.objs.size 0 .none->a.IsTupleIter s.heap.objs.size l 0->(∀b o,s.heap.get? b=some o->a.get? b=some o)->Q (.ref (s.heap.objs.size+1)) { s with heap:=a }) :
 wpAny 'r' A (call (.type "enumerate") [.ref l]) Q E s:=by
 obtain⟨⟨c,e,i,g⟩,f,d,n,a⟩:=j;have d:c=.type "tuple":=d;have a:i=.seq items n:=a;subst d a;refine callType_new F.called_enumerate 'z' (F.typeCall_enumerate_1 _) (F.newCall_enumerate_1 _) (λa=>F.args_object_init_2 a _) F.entry_enumerate_new (qv l items n e g) {f,?_};generalize a:s.heap.push { cls:=.type "tuple_iterator",data:=.fields #[.ref l,.int 0 0] }=g;have d:g.objs.size=s.heap.objs.size+1:=by rw[<-a];exact DZ ..
 have c:IsEnum (g.push { cls:=.type "enumerate",data:=.fields #[.none,.bool false,.ref s.heap.objs.size,rawInt 0,.none,.none] }) (s.heap.objs.size+1) s.heap.objs.size 0 .none:=by
  have:=Be g (o:={ cls:=.type "enumerate",data:=.fields #[.none,.bool false,.ref s.heap.objs.size,rawInt 0,.none,.none] }) rfl;rw[d] at this;exact this
 have e:g.get? s.heap.objs.size=some { cls:=.type "tuple_iterator",data:=.fields #[.ref l,.int 0 0] }:=by rw[<-a];exact Be _ rfl
 show _/\_;rw[d];exact{{_,c,rfl},h _ c {_,AJ _ e,rfl,rfl} λb o x=>AJ _ (by rw[<-a];exact AJ _ x)}
open H in
def jM{i:Nat}(Cr:s.heap.IsTupleIter it l i)(e:s.heap.IsTuple l items)(g:items[i]?=some x)(f:∀a,a.IsTupleIter it l (i+1)->Heap.SameBut it s.heap a->Q x { s with heap:=a }):wpAny 'r' A (Builtin.SmallTypes.nextOf (.ref it)) Q E s:=by
 obtain⟨o,b,h,a⟩:=id Cr;obtain⟨j,c,_,nl,d⟩:=e;delta Builtin.SmallTypes.nextOf;refine Ac (wpAny_callSpecial?_slot (name:=Str.ofString "__next__") Cr.typeIs F.slot_tuple_iterator_next (DX F.slot_tuple_iterator_next Cr.typeIs F.entry_tuple_iterator_next ?_ (F.args_tuple_iterator_next_1 _)));show wpAny _ _ (field (.ref it) 0 >>= λ_=>_) _ _ s;refine Ac (Ca b a (x:=.ref l) rfl ?_);show wpAny _ _ (if (Value.ref l == Value.none)=true then _ else _) _ _ s;have e:¬(Value.ref l == Value.none)=true:=BP;rw[if_neg e];refine Ac (m:=field (.ref it) 1) (Ca b a (x:=.int i 0) rfl ?_);refine Ac (m:=seqItems? (.ref l)) (Ez c d ?_);simp only[Dc,g];refine Ac (wpAny_setField b a 'd' (Ao {x,rfl,Ao (f _ ?_ (Heap.SameBut.update ..))}));refine{_,Heap.get?_update_self _ b (Obj.isFreed_of_fields (Obj.data_mapFields a _)),(Obj.cls_mapFields ..).trans h,?_};rw[Obj.data_mapFields a];simp[rawInt]
open H in
def jN{i:Nat}(f:A.handled=none)(Cr:s.heap.IsTupleIter it l i)(h:s.heap.IsTuple l items)(j:items[i]?=none)(g:∀b e,Heap.ExtBut it s.heap b->(∃o,b.get? e=some o/\o.cls=.type "StopIteration")->E (.ref e) { s with heap:=b }):wpAny 'r' A (Builtin.SmallTypes.nextOf (.ref it)) Q E s:=by
 obtain⟨o,e,c,d⟩:=id Cr;obtain⟨n,b,_,nl,c⟩:=h;delta Builtin.SmallTypes.nextOf;refine Ac (wpAny_callSpecial?_slot (name:=Str.ofString "__next__") Cr.typeIs F.slot_tuple_iterator_next (DX F.slot_tuple_iterator_next Cr.typeIs F.entry_tuple_iterator_next ?_ (F.args_tuple_iterator_next_1 _)));show wpAny _ _ (field (.ref it) 0 >>= λ_=>_) _ _ s;refine Ac (Ca e d (x:=.ref l) rfl ?_);show wpAny _ _ (if (Value.ref l == Value.none)=true then _ else _) _ _ s;have h:¬(Value.ref l == Value.none)=true:=BP;rw[if_neg h];refine Ac (m:=field (.ref it) 1) (Ca e d (x:=.int i 0) rfl ?_);refine Ac (m:=seqItems? (.ref l)) (Ez b c ?_);simp only[Dc,j];refine Ac (aZ (Ac (wpAny_setField e d 'd' ?_)));refine Ac (m:=newExc (.type "StopIteration") []) ?_;simp only[newExc,newTuple];refine Ac (wpAny_newObj_type ?_ (by size_fits));refine Ac (m:=firstArgMember _ _) (wpAny_of_eq (a:=Value.none) (by first | rfl | (simp only[firstArgMember];rfl)) ?_);refine wpAny_newObj_type ?_ (by size_fits);simp only[raiseNew];refine Ac (wpAny_handled ?_);first | rw[show A.in1.handled=none from f] | rw[f]
 exact Ac (Ao (wpAny_throw (g _ _ (((Heap.SameBut.update ..).extBut.push _).push _) {_,Be _ rfl,rfl})))
def qx{e l:Addr}{i:Nat}{x r:Value}{T:Heap->Prop}{Q:Value->Shared->Prop}(u:IsEnum s.heap e l i r)(B:e≠l)(M:∀h a,T h->(∀o,h.get? l=some o->a.get? l=some o)->T a)(f:∀b:Value->Shared->Prop,(∀a,T a->Heap.SameBut l s.heap a->b x { s with heap:=a })->wpAny 'r' A (Builtin.SmallTypes.nextOf (.ref l)) b E s)(J:∀a,IsEnumOut a e l ((i:Int)+1) x s.heap.objs.size->T a->a.get? s.heap.objs.size=some { cls:=.type "tuple",data:=.seq #[.int i s.toks,x] }->a.objs.size=s.heap.objs.size+1->
  (∀b o,b≠e->b≠l->s.heap.get? b=some o->a.get? b=some o)->Q (.ref s.heap.objs.size) { s with heap:=a,toks:=s.toks+1 }) :
 wpAny 'r' A (Builtin.«enumerate.__next__» {[.ref e],[]}) (λfin s'=>∃v,fin=.done (.ret v)/\Q v s') E s:=by
 obtain⟨v,g,d,z,G⟩:=s;refine Ac (m:=field (.ref e) 2) (Ca u rfl (x:=.ref l) rfl ?_);refine Ac (f _ λc E a=>?_);have a:Heap.SameBut l v c:=a;have h:IsEnum c e l i r:=(a.2 e B).trans u;show wpAny _ _ (field (.ref e) 3 >>= λ_=>_) _ _ ⟨c,g,d,z,G⟩;refine Ac (Ca h rfl (x:=rawInt i) rfl ?_);refine Ac (m:=field (.ref e) 4) (Ca h rfl (x:=.none) rfl ?_);refine Ac (m:=mkInt i) (wpAny_mkInt ?_);refine Ac (m:=setField (.ref e) 3 (rawInt ((i:Int)+1))) (Ey h 'd' λp j f=>?_);have f:Heap.SameBut e c p:=f;have j:IsEnum p e l ((i:Int)+1) r:=j;refine Ac (m:=setField (.ref e) 4 .none) (Ey j 'd' λn q h=>?_);have h:Heap.SameBut e p n:=h;have q:IsEnum n e l ((i:Int)+1) r:=q;refine Ac (m:=newTuple [.int i z,x]) (wpAny_newTuple ?_);have j:IsEnum (n.push { cls:=.type "tuple",data:=.seq #[.int i z,x] }) e l ((i:Int)+1) r:=AJ _ q;generalize p:n.push { cls:=.type "tuple",data:=.seq #[.int i z,x] }=h₄ at j;have A:n.objs.size=v.objs.size:=by rw[h.1,f.1,a.1]
 have I:v.objs.size≠e:=Nat.ne_of_gt (Heap.lt_size u);have y:h₄.get? v.objs.size=some { cls:=.type "tuple",data:=.seq #[.int i z,x] }:=by rw[<-p,<-A];exact Be _ rfl
 have C:h₄.objs.size=v.objs.size+1:=by rw[<-p,DZ,A]
 have s:∀b o,b≠e->c.get? b=some o->h₄.get? b=some o:=λb o u q=>by
  rw[<-p];exact AJ _ (h.extBut b o u (f.extBut b o u q))
 show wpAny _ _ (Builtin.SmallTypes.ownedTupleIsFree (.ref e) >>= λ_=>_) _ _ {h₄,g,d,z+1,G};rw[A];refine Ac ?_;delta Builtin.SmallTypes.ownedTupleIsFree;refine Ac (Ca j rfl (x:=.none) rfl (Ao ?_));simp only[if_true];refine Ac (aZ (Ac (Ca j rfl (x:=r) rfl ?_)));refine Ac (Ey j 'd' λp h f=>?_);have f:Heap.SameBut e h₄ p:=f;have h:IsEnum p e l ((i:Int)+1) x:=h;show wpAny _ _ (Builtin.SmallTypes.ownedTupleHandOut (.ref e) (.ref v.objs.size) >>= λ_=>_) _ _ {p,g,d,z+1,G};refine Ac ?_;delta Builtin.SmallTypes.ownedTupleHandOut;refine Ac (Ey h 'd' λr n d=>?_);have d:Heap.SameBut e p r:=d;have n:IsEnumOut r e l ((i:Int)+1) x v.objs.size:=n;refine Ey n 'd' λh j g=>?_
 have g:Heap.SameBut e r h:=g;have j:IsEnumOut h e l ((i:Int)+1) x v.objs.size:=j;have i:∀b o,b≠e->h₄.get? b=some o->h.get? b=some o:=λb o u q=>g.extBut b o u (d.extBut b o u (f.extBut b o u q))
 refine Ac (wpAny_letGo (Ao {_,rfl,J h j (M c h E λo q=>i _ o (Ne.symm B) (s _ o (Ne.symm B) q)) (i _ _ I y) (by rw[g.1,d.1,f.1,C]) λb o u c q=>i b o u (s b o u (a.extBut b o c q))}))
end PySem
namespace L2
def Ab.turnedT{h:List Addr}{p:Addr}{vs:List V}{c:List Value}{t':Nat}(I:Ab X l Y H s)(f:∀b∈h,Di X l H b)(k:∀b o,b∉h->s.heap.get? b=some o->h'.get? b=some o)(j:s.heap.objs.size<=p)(x:Aq vs c)(v:vs.length<=sizeLine)(q:IsTup h' p c.toArray)(i:NoD h' p):Ab X l Y (Ag H p (.tup vs)) { s with heap:=h',toks:=t' }:=by
 have d:H p=none:=I.hok.fresh j;have g:∀b u,H b=some u->b∉h:=λb u e z=>by rw[(f b z).1] at e;cases e
 have a:∀b u,H b=some u->Ag H p (.tup vs) b=some u:=λb u e=>by rw[ah (ay e d)];exact e
 refine I.step (g':=s.gens) (d':=s.drawn) (t':=t') (ch:=h) (λb d=>{(f b d).2.2.2.1,(f b d).2.1,(f b d).2.2.2.2.1,(f b d).2.2.2.2.2}) (λb o _ _ h e _=>k b o h e) (λb o _ _ h e _=>{o.slots,k b o h e})
  (λb o _ e n=>by rw[ah (Br (A6 (Heap.lt_size e) j))];exact n) (λb o h e=>{o,k b o h e}) (λb n e=>a b _ e) (λb o u e=>a b _ e) (λb h e=>{#[],by rw[a b _ e];simp}) (λm j=>?_) (λb u e=>?_) I.bare
 ·obtain⟨o,es,m,h,r⟩:=j
  exact{o,es,m,k _ o (λz=>(f _ z).2.1 rfl) h,r}
 ·by_cases d:b=p
  ·subst d
   rw[aw] at e;cases e;exact⟨v,c,x,q,i⟩
  ·rw[ah d] at e
   refine(I.hok b u e).stay (λd v i q=>k d v ?_ q) (λd q=>a d _ q) λd n q=>a d _ q
   rcases i with z | z
   ·rw[z];exact g b u e
   ·exact g d _ z
def Ab.turnedF{f:List Addr}{t':Nat}(I:Ab X g Y H s)(a:∀b∈f,Di X g H b)(k:∀b o,b∉f->s.heap.get? b=some o->h'.get? b=some o):Ab X g Y H { s with heap:=h',toks:=t' }:=by
 have c:∀b u,H b=some u->b∉f:=λb u e z=>by rw[(a b z).1] at e;cases e
 refine I.step (g':=s.gens) (d':=s.drawn) (t':=t') (ch:=f) (λb d=>{(a b d).2.2.2.1,(a b d).2.1,(a b d).2.2.2.2.1,(a b d).2.2.2.2.2}) (λb o _ _ d e _=>k b o d e) (λb o _ _ d e _=>{o.slots,k b o d e})
  (λb o _ e n=>n) (λb o d e=>{o,k b o d e}) (λb i e=>e) (λb o u e=>e) (λb d e=>{#[],by rw[e];simp}) (λm f=>?_) (λb u e=>?_) I.bare
 ·obtain⟨o,es,h,d,r⟩:=f
  exact{o,es,h,k _ o (λz=>(a _ z).2.1 rfl) d,r}
 ·refine(I.hok b u e).stay (λd v a q=>k d v ?_ q) (λd q=>q) λd i q=>q
  rcases a with z | z
  ·rw[z];exact c b u e
  ·exact c d _ z
def GI(b:Nat)(Sq:Hp->List V->Prop):It:=
 {λi H=>∃xs x,Sq H xs/\xs[i]?=some x,λi H v H'=>∃p x,H p=none/\v=.ref p/\H'=Ag H p (.tup [.int (i+b:Nat),x])/\∀xs,Sq H xs->xs[i]?=some x,λi H=>∃xs,Sq H xs/\xs.length<=i}
abbrev Ien(Sq:Hp->List V->Prop):It:=GI 0 Sq
structure Ij(P:Program)(w:World)(K:FG)(Sq:Hp->List V->Prop)(T:Nat->Heap->Prop)(it:Addr):Prop where
 obj:∀{i h},T i h->∃o,h.get? it=some o/\∀v,o.data=.cell v->False
 keep:∀{i h h'},T i h->(∀o,h.get? it=some o->h'.get? it=some o)->T i h'
 inj:∀{X A5 Y H s xs ys},X.K=K->Ab X A5 Y H s->Sq H xs->Sq H ys->xs=ys
 item:∀{X A5 Y H s i xs x},X.K=K->Ab X A5 Y H s->Sq H xs->xs[i]?=some x->T i s.heap->∃u,Am x u/\∀(A:Around) (E Q:Value->Shared->Prop),(∀h',T (i+1) h'->Heap.SameBut it s.heap h'->Q u { s with heap:=h' })->wpAny (model P w) A (Builtin.SmallTypes.nextOf (.ref it)) Q E s
 done:∀{X A5 Y H s i xs},X.K=K->Ab X A5 Y H s->Sq H xs->xs.length<=i->T i s.heap->∀(A:Around) (E Q:Value->Shared->Prop),A.handled=none->(∀h' e,Heap.ExtBut it s.heap h'->(∃o,h'.get? e=some o/\o.cls=.type "StopIteration")->E (.ref e) { s with heap:=h' })->wpAny (model P w) A (Builtin.SmallTypes.nextOf (.ref it)) Q E s
open H in
def jO{P:Program}{w:World}{K:FG}{a:List Expr}{x1}{pos:Pos}{b:Nat}{c:Hp->List V->Prop}{T:Nat->Heap->Prop}{e j:Addr}(N:Ij P w K c T j):E2 P w K (.Tuple a x1 pos) (GI b c) [e,j] e (λi h=>e≠j/\(∃f,IsEnum h e j (i+b:Nat) f)/\T i h) where
 mem:=by simp
 obj:=λi h l c d=>by
  obtain⟨a,⟨f,g⟩,n⟩:=l;rcases AE.mp d with z | d
  ·subst z
   exact{_,g,λv z=>by
    have z':Data.fields _=Data.cell v:=z;cases z'}
  ·rw[Bd.mp d]
   exact(N.obj n).imp λo z=>⟨z.1,z.2⟩
 keep:=λi h v l k=>by
  obtain⟨a,⟨f,g⟩,n⟩:=l;exact{a,{f,k e 'd' _ g},N.keep n λo q=>k j 'd' o q}
 item:=by
  intro X U O C hc i A5 s Y H E I B l M;subst U O;obtain⟨xs,x,J,G⟩:=M;obtain⟨a,⟨f,g⟩,n⟩:=l;obtain⟨u,ru,y⟩:=N.item C I J G n;have r:s.TypeIs (.ref e) "enumerate":={_,g,rfl};delta pyNext;refine Ac (wpAny_attempt (wpAny_callSpecial?_slot (name:=Str.ofString "__next__") r F.slot_enumerate_next (DX F.slot_enumerate_next r F.entry_enumerate_next (qx (T:=T (i+1)) g a (λh v t q=>N.keep t q) (λA c=>y _ _ _ c) λv R W Z y kk=>Ao ?_) (F.args_enumerate_next_1 _))));refine{_,rfl,wpAny_letOwnedTupleGo_enum (s:={ s with heap:=v,toks:=s.toks+1 }) R λy Q c=>?_};have c:Heap.SameBut e v y:=c;have P:s.heap.objs.size≠e:=Nat.ne_of_gt (Heap.lt_size g);have k2:∀b o,b∉[e,j]->s.heap.get? b=some o->y.get? b=some o:=λb o d q=>by
   have A:b≠e:=λz=>d (by simp[z])
   have h3:b≠j:=λz=>d (by simp[z])
   exact c.extBut b o A (kk b o A h3 q)
  have tt:IsTup y s.heap.objs.size [Value.int (i+b:Nat) s.toks,u].toArray/\NoD y s.heap.objs.size:={{_,c.extBut _ _ P Z,rfl,_,rfl},{_,c.extBut _ _ P Z,rfl}};have nn:∀b∈[e,j],b≠s.heap.objs.size:=λb d z=>by
   obtain⟨o1,A,_⟩:=N.obj n;rcases AE.mp d with y | y
   ·exact P (by rw[<-z,y])
   ·rw[z] at y
    rw[<-Bd.mp y] at A;exact absurd (Heap.lt_size A) (Dd _)
  refine{.ref s.heap.objs.size,_,I.turnedT (p:=s.heap.objs.size) (vs:=[.int (i+b:Nat),x]) B k2 (Ap _) (.cons {_,rfl} (.cons ru .nil)) (by show 2<=sizeLine;decide) tt.1 tt.2,rfl,{_,x,I.hok.fresh (Ap _),rfl,rfl,λA y=>by rw[N.inj C I y J];exact G},{a,{u,?_},?_},λb d=>?_}
  ·have:((i+1+b:Nat):Int)=((i+b:Nat):Int)+1:=by omega
   rw[this];exact Q
  ·exact N.keep W λo q=>c.extBut _ _ (Ne.symm a) q
  ·rw[ah (nn b d)];exact(B b d).1
 done:=by
  intro X U O C hc i A5 s Y H E I B l M;subst U O;obtain⟨xs,J,G⟩:=M;obtain⟨a,⟨f,g⟩,n⟩:=l;have r:s.TypeIs (.ref e) "enumerate":={_,g,rfl};delta pyNext;refine Ac (wpAny_attempt (wpAny_callSpecial?_slot (name:=Str.ofString "__next__") r F.slot_enumerate_next (DX F.slot_enumerate_next r F.entry_enumerate_next ?_ (F.args_enumerate_next_1 _))));refine Ac (m:=field (.ref e) 2) (Ca g rfl (x:=.ref j) rfl ?_);refine Ac (N.done C I J G n _ _ _ (I.ok.hd hc) λv x e c=>?_);obtain⟨o,R,a⟩:=c;refine Ac (wpAny_isInstance (T:="StopIteration") (b:=true) ⟨o,R,a⟩ isSubtype_stop (Ao {rfl,I.turnedF B λb o d q=>e b o (λz=>d (by simp[z])) q}))
 self:=λ_ _ _ _ _ l h=>let ⟨_,⟨_,g⟩,_⟩:=l;wpAny_pyIter_enum g h
def qy{P:Program}{w:World}{K:FG}(a b:Addr):Ij P w K (λH j=>AS K H a j) (λi h=>h.IsTupleIter b a i) b where
 obj:=λ⟨o,a,_,d⟩=>{o,a,λv z=>by rw[d] at z;cases z}
 keep:=λt q=>t.at q
 inj:=λa I b d=>I.tuple_inj (a▸b) (a▸d)
 item:=λa I c f d=>by
  obtain⟨b,e,p,_⟩:=I.tuple (a▸c);obtain⟨u,l,g⟩:=e.get f;exact{u,g,λA E Q i=>jM d p (by simpa using l) i}
 done:=λa I c f d A E Q g h=>by
  obtain⟨b,e,p,_⟩:=I.tuple (a▸c);have b:=e.length;exact jN g d p (by simp;omega) h
open H in
def qz{P:Program}{w:World}{K:FG}{c:List Expr}{x1}{pos:Pos}(a e b:Addr):E2 P w K (.Tuple c x1 pos) (Ien λH d=>AS K H a d) [e,b] e (λi h=>e≠b/\(∃c,IsEnum h e b i c)/\h.IsTupleIter b a i):=jO (qy a b)
section
variable{x1:Nat}
def KN(K:FG)(ta:TA):TI:=λY H R=>ta Y H λvs H1=>∃a xs,vs=[.ref a]/\AS K H1 a xs/\R (Ien λH xs=>AS K H a xs) H1
def qA(c:Gl X "enumerate")(e:X.mg "enumerate" = none)(d:PA X [a] ta)(b:autoParam (starEach [a] X.env=[(false,eval a X.env)]) uR):PI X (.Tuple elts x1 tpos) (.Call (.Name "enumerate" p) [a] [] pos) (KN X.K ta):=by
 intro a s Y H R I h;refine Call_ (cA I c e boot_enumerate (PyProof.Rows.callWith_type1 (ai (d pos a s Y H _ I h) λus a hI111=>?_) b rfl));obtain⟨c,H1,I1,e,b⟩:=hI111;obtain⟨l,c,rfl,d,q⟩:=b;cases e with
 | cons r c=>
   cases c;cases r;obtain⟨b,g,e,f⟩:=I1.tuple d;refine qw (show a.heap.IsTuple l b.toArray from e) λc d f b=>?_
   refine wpAny_pyIter_enum (s:={ a with heap:=c }) d ?_;refine{a.heap.objs.size+1,[a.heap.objs.size+1,a.heap.objs.size],_,_,H1,rfl,I1.kept (t':=a.toks) b,qz l _ _,{Nat.succ_ne_self _,{_,d},f},λb c=>?_,q};have c:a.heap.objs.size<=b:=by
    rcases AE.mp c with z | z
    ·rw[z];exact Fs _
    ·have z:b=a.heap.objs.size:=by simpa using z
     exact BQ z.symm
   exact I1.fpOk c (I1.hok.fresh c)
variable{S:Type}
def Es(b:Nat)(l:List D):List D:=(l.zipIdx b).map λp=>.tup [.int p.2,p.1]
def gv{b:Nat}{l:List D}{i:Nat}{d:D}(h:(Es b l)[i]?=some d):∃x,l[i]?=some x/\d=.tup [.int (i+b:Nat),x]:=by
 delta Es at h;rw[AK,List.getElem?_zipIdx] at h;cases q:l[i]? with
 | none=>rw[q] at h;cases h
 | some x=>rw[q] at h;cases h;exact{x,rfl,by rw[Cq]}
def gw(b:Nat)(l:List D):(Es b l).length=l.length:=by delta Es;rw[Ai,List.length_zipIdx]
abbrev GJ(l:List D):List D:=Es 0 l
def Ht:List D->Option (List D)
 | [.tup l]=>if D.immL l=true then some (GJ l) else none
 | _=>none
def jP{i:Nat}(h:(GJ l)[i]?=some d):∃x,l[i]?=some x/\d=.tup [.int i,x]:=gv h
def jQ(l:List D):(GJ l).length=l.length:=gw 0 l
def gx{b:Nat}{Y:St}{Z:Ae}{H1:Hp}{l:List D}{e:List V}{a:Hp->List V->Prop}(s0:∀(f:Addr->Prop) (d:Hp),Bg (Av c Y Z) f H1 d->a d e)(n:aa c.K (Av c Y Z) H1 l e):Hn c Y Z H1 (GI b a) (Es b l):=by
 intro d f h i H2 g k R2 m j;have f:a H2 e:=s0 _ _ k;have g:aa c.K (Av d h i) H2 l e:=n.mono k;refine{λd i=>?_,λa=>{e,f,by rw[gw] at a;rw[<-g.length];exact a}};obtain⟨y,d,rfl⟩:=gv i;obtain⟨h,c,l⟩:=g.get d;refine{⟨e,h,f,c⟩,?_};rintro x H3 ⟨g,i,a,rfl,rfl,d⟩;have:=d e f;rw[c] at this;cases this;have d:Ci H2 (Ag H2 g (.tup [.int (j+b:Nat),h])):=λb o c=>by rw[ah (ay c a)];exact c
 refine{d,Is.tup aw (aa.cons.mpr {_,_,rfl,Is.int_iff.mpr rfl,aa.one ?_})};exact l.mono (bG (λb o c _=>d b o c) λb o a c=>{a,d b o c})
open H in
def wX(h:c.K=X.K)(b:Gl X "enumerate")(g:X.mg "enumerate" = none)(d:DA X c [a] f)(e:autoParam (starEach [a] X.env=[(false,eval a X.env)]) uR):DI X c (.Tuple elts x1 tpos) (.Call (.Name "enumerate" p) [a] [] pos) (FP S Ht f):=
 (qA b g d e).imp λY H R hI30=>by
  obtain⟨Z,d,b,e,w⟩:=hI30;refine{Z,d,b,e,ak (ae.mp w) (λl d q b H1 e f z=>?_) λx d q=>q};obtain⟨m,b,q⟩:=au.mp q;delta Ht at b;split at b
  ·rename_i l
   split at b
   ·rename_i im
    cases b;obtain⟨v,r,g,m,l⟩:=aa.cons.mp z;obtain⟨a,d,j,s0,i⟩:=Is.tup_iff.mp m;have s:AS c.K H1 a d:=.of s0;rw[aa.nil.mp l,j] at g;exact{a,d,g,h▸s,q _ H1 e f (gx (λg c k=>by rw[<-h];exact .of (k.tup a d s0)) (aa.ofImm im i))}
   ·cases b
  ·cases b
end
def dQ{a:List Bool}:(List.range a.length).all (λi=>a.getD i false)=a.all id:=by
 apply FK.mpr;simp only[List.all_eq_true,DY,id];constructor
 ·intro h b c
  obtain⟨i,a,e⟩:=List.mem_iff_getElem.mp c;have:=h i a;rw[Gu,AO a] at this;rw[<-e];exact this
 ·intro h i a
  rw[Gu,AO a];exact h _ (List.getElem_mem a)
def qB{a:List Bool}:(List.range a.length).any (λi=>a.getD i false)=a.any id:=by
 apply FK.mpr;simp only[List.any_eq_true,DY,id];constructor
 ·rintro ⟨i,a,h⟩
  rw[Gu,AO a] at h;exact{_,List.getElem_mem a,h}
 ·rintro ⟨b,c,h⟩
  obtain⟨i,a,e⟩:=List.mem_iff_getElem.mp c;refine{i,a,?_};rw[Gu,AO a,e];exact h
def jR{b:List Bool}{a:List Value}(r:Aq (b.map V.bl) a){i:Nat}{v:Value}(h:a.toArray[i]?=some v):v=.bool (b.getD i false):=by
 have c:i<a.length:=by
  have:=(Array.getElem?_eq_some_iff.mp h).1;simpa using this
 have d:=r.length;rw[Ai] at d;have c:i<b.length:=by omega
 obtain⟨u,e,d⟩:=r.get (i:=i) (x:=.bl b[i]) (by rw[AK,AO c];rfl);have:a[i]?=some v:=by simpa using h
 rw[e] at this;cases this;rw[Gu,AO c];exact d
def wY(i:X.calm=true):Ch X (.builtin "all") (λg H Q=>∃(a:Addr) (b:List Bool),g=[.ref a]/\AY X.K H a (b.map V.bl)/\Q (.bl (b.all id)) H):=by
 intro c s Y H g us Q I r h;obtain⟨a,b,rfl,d,q⟩:=h;obtain⟨u,rfl,e⟩:=br r;cases e;obtain⟨c,f,p,j⟩:=I.list d;have h:X.A.in1.handled=none:=I.ok.hd i;have d:a<s.heap.objs.size:=by obtain⟨o,e,_⟩:=p.isList;exact Heap.lt_size e
 refine call_all_walk (wpAny_pyIter_list p.isList {_,_,_,_,_,_,λi=>b.getD i false,rfl,Walks.list h s.heap.objs.size a (Br d) c.toArray,{{_,Be _ rfl,rfl,rfl},p.isList.push _},?_,?_})
 ·intro i v j l s' h a
  rw[jR f h];exact Ec a
 ·intro l j h
  have e:(List.range c.toArray.size).all (λi=>b.getD i false)=b.all id:=by
   have a:=f.length;rw[Ai] at a;rw[AX,<-a,dQ]
  rw[e];refine{.bl _,H,?_,rfl,q};refine I.kept (t':=j) λb o e=>h b o (λz=>?_) (AJ _ e)
  have z:b=s.heap.objs.size:=by simpa using z
  have d:=Heap.lt_size e;rw[z] at d;exact Dd _ d
def wZ(i:X.calm=true):Ch X (.builtin "any") (λg H Q=>∃(a:Addr) (b:List Bool),g=[.ref a]/\AY X.K H a (b.map V.bl)/\Q (.bl (b.any id)) H):=by
 intro c s Y H g us Q I r h;obtain⟨a,b,rfl,d,q⟩:=h;obtain⟨u,rfl,e⟩:=br r;cases e;obtain⟨c,f,p,j⟩:=I.list d;have h:X.A.in1.handled=none:=I.ok.hd i;have d:a<s.heap.objs.size:=by obtain⟨o,e,_⟩:=p.isList;exact Heap.lt_size e
 refine call_any_walk (wpAny_pyIter_list p.isList {_,_,_,_,_,_,λi=>b.getD i false,rfl,Walks.list h s.heap.objs.size a (Br d) c.toArray,{{_,Be _ rfl,rfl,rfl},p.isList.push _},?_,?_})
 ·intro i v j l s' h a
  rw[jR f h];exact Ec a
 ·intro l j h
  have e:(List.range c.toArray.size).any (λi=>b.getD i false)=b.any id:=by
   have a:=f.length;rw[Ai] at a;rw[AX,<-a,qB]
  rw[e];refine{.bl _,H,?_,rfl,q};refine I.kept (t':=j) λb o e=>h b o (λz=>?_) (AJ _ e)
  have z:b=s.heap.objs.size:=by simpa using z
  have d:=Heap.lt_size e;rw[z] at d;exact Dd _ d
open PySem.SeqAt
mutual
noncomputable def D.eqq:D->D->Option Bool
 | .int i,.int j=>some (i == j)
 | .str i,.str j=>some (i == j)
 | .bl i,.bl j=>some (i == j)
 | .non,.non=>some true
 | .tup l,.tup m=>D.eqL l m
 | .lst l,.lst m=>if l.length=m.length then D.eqL l m else some false
 | .lst l,.fl m=>if l.length=m.length then D.eqL l m else some false
 | .fl l,.lst m=>if l.length=m.length then D.eqL l m else some false
 | .fl l,.fl m=>if l.length=m.length then D.eqL l m else some false
 | _,_=>none
noncomputable def D.eqL:List D->List D->Option Bool
 | [],[]=>some true
 | [],_::_=>some false
 | _::_,[]=>some false
 | a::l,b::m=>(D.eqq a b).bind λx=>(D.eqL l m).map λy=>x&&y
end
mutual
noncomputable def D.dep:D->Nat
 | .tup l=>D.depL l+1
 | .lst l=>D.depL l+1
 | .fl l=>D.depL l+1
 | _=>0
noncomputable def D.depL:List D->Nat
 | []=>0
 | d::l=>max (D.dep d) (D.depL l)
end
section
variable{X:Cx}{A5:List 'p'}{Y:St}{H:Hp}{s:Shared}{A1 A2:Addr->Prop}
def aC{b:Bool}{P:Prop}(e:(none:Option Bool)=some b):P:=nomatch e
def gy{α:Type}[BEq α][ReflBEq α]{i:α}{b:Bool}(e:some (i == i)=some b):b=true:=(Option.some.inj e).symm.trans (cg i)
mutual
theorem gz(I:Ab X A5 Y H s):∀{a d:D} {v:V} {b:Bool},Is X.K A1 H a v->Is X.K A2 H d v->D.eqq a d=some b->b=true
 | .int i,d,v,b,g,f,e=>by
   rw[Is.int_iff.mp g] at f;cases d with
   | int j=>have:=Is.int_iff.mp f;cases this;exact gy e
   | _=>exact aC e
 | .str i,d,v,b,g,f,e=>by
   rw[Is.str_iff.mp g] at f;cases d with
   | str j=>have:=Is.str_iff.mp f;cases this;exact gy e
   | _=>exact aC e
 | .bl i,d,v,b,g,f,e=>by
   rw[Is.bl_iff.mp g] at f;cases d with
   | bl j=>have:=Is.bl_iff.mp f;cases this;exact gy e
   | _=>exact aC e
 | .non,d,v,b,g,f,e=>by
   cases d with
   | non=>exact(Option.some.inj (show some true=some b from e)).symm
   | _=>exact aC e
 | .tup l,d,v,b,g,f,e=>by
   cases d with
   | tup m=>
     obtain⟨a,q,i,n,p⟩:=Is.tup_sq g;obtain⟨r,us,c,h,j⟩:=Is.tup_sq f;rw[i] at c;cases c;have:=I.tuple_inj n h;subst this;exact e0 I p j e
   | _=>exact aC e
 | .lst l,d,v,b,g,f,e=>by
   cases d with
   | lst m=>
     obtain⟨a,q,i,_,n,p⟩:=Is.lst_iff.mp g;obtain⟨r,us,c,_,h,j⟩:=Is.lst_iff.mp f;rw[i] at c;cases c;have:q=us:=by rw[n] at h;cases h;rfl
     subst this;have e:(if l.length=m.length then D.eqL l m else some false)=some b:=e;have u:l.length=m.length:=by rw[p.length,j.length]
     rw[if_pos u] at e;exact e0 I p j e
   | fl m=>
     obtain⟨a,q,i,_,n,p⟩:=Is.lst_iff.mp g;obtain⟨r,o,us,c,h,j⟩:=Is.fl_iff.mp f;rw[i] at c;cases c;rw[n] at h;cases h
   | _=>exact aC e
 | .dct _ _,d,v,b,g,f,e=>by cases d<;>exact aC e
 | .fl l,d,v,b,g,f,e=>by
   cases d with
   | fl m=>
     obtain⟨a,o,q,i,n,p⟩:=Is.fl_iff.mp g;obtain⟨r,o',us,c,h,j⟩:=Is.fl_iff.mp f;rw[i] at c;cases c;have:q=us:=by rw[n] at h;cases h;rfl
     subst this;have e:(if l.length=m.length then D.eqL l m else some false)=some b:=e;have u:l.length=m.length:=by rw[p.length,j.length]
     rw[if_pos u] at e;exact e0 I p j e
   | lst m=>
     obtain⟨a,o,q,i,n,p⟩:=Is.fl_iff.mp g;obtain⟨r,us,c,_,h,j⟩:=Is.lst_iff.mp f;rw[i] at c;cases c;rw[n] at h;cases h
   | _=>exact aC e
 | .fd _ _,d,v,b,g,f,e=>by cases d<;>(exact aC e)
theorem e0(I:Ab X A5 Y H s):∀{l m:List D} {c:List V} {b:Bool},aa X.K A1 H l c->aa X.K A2 H m c->D.eqL l m=some b->b=true
 | [],m,c,b,f,a,e=>by
   rw[aa.nil.mp f] at a;cases m with
   | nil=>unfold D.eqL at e;simpa using e.symm
   | cons x r=>obtain⟨_,_,z,_⟩:=aa.cons.mp a;cases z
 | d::l,m,c,b,f,a,e=>by
   obtain⟨v,r,g,h,i⟩:=aa.cons.mp f;subst g;cases m with
   | nil=>have:=aa.nil.mp a;cases this
   | cons x m=>
     obtain⟨v',r',f,g,j⟩:=aa.cons.mp a;cases f;unfold D.eqL at e;cases a:D.eqq d x with
     | none=>rw[a] at e;cases e
     | some n=>
       cases d:D.eqL l m with
       | none=>rw[a,d] at e;cases e
       | some f=>
         rw[a,d] at e;have e:some (n&&f)=some b:=e;cases e;rw[gz I h g a,e0 I i j d];rfl
end
def BU:List D->List D->List Bool
 | a::l,b::m=>((D.eqq a b).getD false)::BU l m
 | _,_=>[]
theorem dR:∀(l m:List D),(BU l m).length=min l.length m.length
 | [],m=>by cases m<;>simp[BU]
 | a::l,[]=>by simp[BU]
 | a::l,b::m=>by simp[BU,dR l m]
theorem dU:∀{l m:List D} {b:Bool},D.eqL l m=some b->b=((BU l m).all id&&l.length == m.length)
 | [],[],b,e=>by unfold D.eqL at e;simpa [BU] using e.symm
 | [],_::_,b,e=>by unfold D.eqL at e;simpa [BU] using e.symm
 | _::_,[],b,e=>by unfold D.eqL at e;simpa [BU] using e.symm
 | a::l,x::m,b,e=>by
   unfold D.eqL at e;cases c:D.eqq a x with
   | none=>rw[c] at e;cases e
   | some f=>
     cases a:D.eqL l m with
     | none=>rw[c,a] at e;cases e
     | some d=>
       rw[c,a] at e;have e:some (f&&d)=some b:=e;cases e;rw[dU a];simp[BU,c,Bool.and_assoc]
theorem jS:∀{l m:List D} {b:Bool} {j:Nat} {x y:D},D.eqL l m=some b->l[j]?=some x->m[j]?=some y->D.eqq x y=some ((BU l m).getD j false)
 | [],_,_,_,_,_,_,h,_=>by simp at h
 | _::_,[],_,_,_,_,_,_,h=>by simp at h
 | a::l,c::m,b,j,x,y,e,f,d=>by
   unfold D.eqL at e;cases b:D.eqq a c with
   | none=>rw[b] at e;cases e
   | some c=>
     cases a:D.eqL l m with
     | none=>rw[b,a] at e;cases e
     | some c=>
       cases j with
       | zero=>simp at f d;subst f d;simp[BU,b]
       | succ j=>
         have:=jS (j:=j) a (by simpa using f) (by simpa using d);simpa [BU] using this
theorem gA:∀{l:List D} {j:Nat} {x:D},l[j]?=some x->x.dep<=D.depL l
 | [],_,_,h=>by simp at h
 | a::l,0,x,h=>by simp at h;subst h;unfold D.depL;omega
 | a::l,j+1,x,h=>by
   have:=gA (j:=j) (l:=l) (x:=x) (by simpa using h);unfold D.depL;omega
instance D.plain:D->Bool
 | .tup _=>false
 | .lst _=>false
 | .dct _ _=>false
 | .fl _=>false
 | .fd _ _=>false
 | _=>true
def jT{b:Bool}(c:d1.plain=true)(e:D.eqq d1 d2=some b)(f:Is X.K A1 H d1 v1)(d:Is X.K A2 H d2 v2)(h:Am v1 u1)(g:Am v2 u2):EqAt A s u1 u2 b:=by
 cases d1 with
 | int i=>
   cases d2 with
   | int j=>
     have b:=Is.int_iff.mp f;have a:=Is.int_iff.mp d;subst b a;obtain⟨t,rfl⟩:=h;obtain⟨l,rfl⟩:=g;cases (show some _=some _ from e);exact EqAt.int_int i t j l
   | _=>exact aC e
 | str i=>
   cases d2 with
   | str j=>
     have b:=Is.str_iff.mp f;have a:=Is.str_iff.mp d;subst b a;obtain⟨t,rfl⟩:=h;obtain⟨l,rfl⟩:=g;cases (show some _=some _ from e);exact EqAt.str_str i t j l
   | _=>exact aC e
 | bl i=>
   cases d2 with
   | bl j=>
     have b:=Is.bl_iff.mp f;have a:=Is.bl_iff.mp d;subst b a;cases h;cases g;cases (show some _=some _ from e);exact EqAt.bool_bool i j
   | _=>exact aC e
 | non=>
   cases d2 with
   | non=>
     have b:=Is.non_iff.mp f;have a:=Is.non_iff.mp d;subst b a;cases h;cases g;cases (show some _=some _ from e);exact EqAt.same _
   | _=>exact aC e
 | tup l=>exact nomatch (show false=true from c)
 | lst l=>exact nomatch (show false=true from c)
 | dct _ _=>exact nomatch (show false=true from c)
 | fl _=>exact nomatch (show false=true from c)
 | fd _ _=>exact nomatch (show false=true from c)
def cX{n:Nat}{b:Bool}(e:D.eqL l m=some b)(q:aa X.K A1 H l x)(o:aa X.K A2 H m us)(p:Aq x a)(c:Aq us its2)(v:∀{f i:D} {b:Bool} {g d:V} {j h:Value},f.dep<=n->D.eqq f i=some b->Is X.K A1 H f g->Is X.K A2 H i d->Am g j->Am d h->EqAt A s j h b)(u:D.depL l<=n)(j:Nat)(h:j<a.toArray.size)(i:j<its2.toArray.size):EqAt A s a.toArray[j] its2.toArray[j] ((BU l m).getD j false):=by
 have b:j<a.length:=by simpa using h
 have f:j<its2.length:=by simpa using i
 have g1:j<l.length:=by rw[q.length,p.length];exact b
 have g2:j<m.length:=by rw[o.length,c.length];exact f
 have h:l[j]?=some l[j]:=AO g1;have n:m[j]?=some m[j]:=AO g2;obtain⟨g,l,s⟩:=q.get h;obtain⟨d,i,r⟩:=o.get n;obtain⟨q,g,y⟩:=p.get l;obtain⟨m,d,o⟩:=c.get i;have l:a.toArray[j]=q:=by
  rw[AO b] at g;have:=Option.some.inj g;simpa using this
 have b:its2.toArray[j]=m:=by
  rw[AO f] at d;have:=Option.some.inj d;simpa using this
 rw[l,b];exact v (Az (gA h) u) (jS e h n) s r y o
def gB(I:Ab X A5 Y H s):∀(n:Nat) {A:Around} {g d:D} {b:Bool} {c j:V} {f a:Value},g.dep<=n->A.units+n<cLine->D.eqq g d=some b->Is X.K A1 H g c->Is X.K A2 H d j->Am c f->Am j a->EqAt A s f a b:=by
 intro n;induction n with
 | zero=>
   intro A g d b c j f a i m e h r y x;refine jT ?_ e h r y x;cases g with
   | tup l=>exact absurd i (Nat.not_succ_le_zero _)
   | lst l=>exact absurd i (Nat.not_succ_le_zero _)
   | dct _ _=>cases d<;>exact aC e
   | fl _=>exact absurd i (Nat.not_succ_le_zero _)
   | fd _ _=>cases d<;>exact aC e
   | _=>rfl
 | succ n o=>
   intro A g d b c j f a i m e h r y x;by_cases hp:g.plain=true
   ·exact jT hp e h r y x
   have v:A.units<cLine:=Cb (CA _ _) m;have G:∀{g d:D} {b:Bool} {c j:V} {f a:Value},g.dep<=n->D.eqq g d=some b->Is X.K A1 H g c->Is X.K A2 H d j->Am c f->Am j a->EqAt A.in1 s f a b:=
    λi e h r y x=>o (A:=A.in1) i (by rw[Around.in1_units,Nat.add_right_comm];exact m) e h r y x
   have c:∀{l m:List D},g.asL=some l->d.asL=some m->D.depL l<=n->(if l.length=m.length then D.eqL l m else some false)=some b->EqAt A s f a b:=λ{l m} j f W e'=>by
    obtain⟨a,vs,E,U,J,_⟩:=Is.asL h j;obtain⟨C,us,o,Y,N,_⟩:=Is.asL r f;have Z:a=C->b=true:=λz=>by
     subst z;rw[o] at r;rw[E] at h;exact gz I h r e
    subst E o;cases y;cases x;by_cases z:a=C
    ·rw[Z z,z];exact EqAt.same _
    ·obtain⟨u,P,Q,_⟩:=I.list (.inl U)
     obtain⟨f,p,R,_⟩:=I.list (.inl Y);have O:u.toArray.size=l.length:=by rw[AX,<-P.length,<-J.length]
     have T:f.toArray.size=m.length:=by rw[AX,<-p.length,<-N.length]
     by_cases B:l.length=m.length
     ·rw[if_pos B] at e'
      have q:=RcAt.lists (A:=A) (e:=λj=>(BU l m).getD j false) Q.isList R.isList (by rw[O,T,B]) v (λj g1 g2=>cX e' J N P p G W j g1 g2);have M:=dU e';have el:l.length=(BU l m).length:=by rw[dR,<-B,Nat.min_self]
      rw[O,el,dQ] at q;rw[B] at M;simp at M;rw[M];exact EqAt.of_refs z q
     ·rw[if_neg B] at e'
      cases e';exact EqAt.of_refs z (RcAt.lists_lengths Q.isList R.isList (by rw[O,T];simpa using B) v)
   cases g with
   | tup l=>
     cases d with
     | tup m=>
       obtain⟨a,vs,E,U,J⟩:=Is.tup_sq h;obtain⟨C,us,o,Y,N⟩:=Is.tup_sq r;have Z:a=C->b=true:=λz=>by
        subst z;rw[o] at r;rw[E] at h;exact gz I h r e
       subst E o;cases y;cases x;by_cases z:a=C
       ·rw[Z z,z];exact EqAt.same _
       ·obtain⟨u,P,Q,_⟩:=I.tuple U
        obtain⟨f,p,R,_⟩:=I.tuple Y;have W:D.depL l<=n:=Hd i;have q:=RcAt.tuples (A:=A) (e:=λj=>(BU l m).getD j false) (show s.heap.IsTuple a u.toArray from Q) (show s.heap.IsTuple C f.toArray from R) v (λj g1 g2=>cX e J N P p G W j g1 g2);have M:=dU e;have O:u.toArray.size=l.length:=by rw[AX,<-P.length,<-J.length]
        have T:f.toArray.size=m.length:=by rw[AX,<-p.length,<-N.length]
        rw[O,T,<-dR,dQ,<-M] at q;exact EqAt.of_refs z q
     | _=>exact aC e
   | lst l=>
     cases d with
     | lst m=>exact c rfl rfl (Hd i) e
     | fl m=>exact c rfl rfl (Hd i) e
     | _=>exact aC e
   | dct _ _=>cases d<;>exact aC e
   | fl l=>
     cases d with
     | lst m=>exact c rfl rfl (Hd i) e
     | fl m=>exact c rfl rfl (Hd i) e
     | _=>exact aC e
   | fd _ _=>cases d<;>exact aC e
   | _=>exact absurd rfl hp
end
section
def jU(I:Ab X A5 Y H s){n:Nat}{b:Bool}(C:o.dep<=n)(a:A.units+n<cLine)(e:D.eqq o d=some b)(u:Is X.K A1 H o P)(z:Is X.K A2 H d O)(B:Am P y)(v:Am O x) :
 RcAt A s y x b/\RcNeAt A s y x (!b):=by
 have h:A.units<cLine:=Cb (CA _ _) a;have c:∀{l m:List D},o.asL=some l->d.asL=some m->D.depL l+1<=n->(if l.length=m.length then D.eqL l m else some false)=some b->RcAt A s y x b/\RcNeAt A s y x (!b):=λ{l m} f g hd' e'=>by
  obtain⟨a,vs,ea,s1,R,_⟩:=Is.asL u f;obtain⟨a',us,Q,s2,E,_⟩:=Is.asL z g;subst ea Q;cases B;cases v;obtain⟨r,M,T,_⟩:=I.list (.inl s1);obtain⟨f,g,U,_⟩:=I.list (.inl s2);have G:r.toArray.size=l.length:=by rw[AX,<-M.length,<-R.length]
  have W:f.toArray.size=m.length:=by rw[AX,<-g.length,<-E.length]
  by_cases i:l.length=m.length
  ·rw[if_pos i] at e'
   have p:∀{o d:D} {b:Bool} {P O:V} {y x:Value},o.dep<=n-1->D.eqq o d=some b->Is X.K A1 H o P->Is X.K A2 H d O->Am P y->Am O x->EqAt A.in1 s y x b:=
    λC e u z B v=>gB I (n-1) (A:=A.in1) C (by rw[Around.in1_units];omega) e u z B v
   have q:=RcAt.lists (A:=A) (e:=λj=>(BU l m).getD j false) T.isList U.isList (by rw[G,W,i]) h (λj g1 g2=>cX e' R E M g p 'o' j g1 g2);have Z:=RcNeAt.lists (A:=A) (e:=λj=>(BU l m).getD j false) T.isList U.isList (by rw[G,W,i]) h (λj g1 g2=>cX e' R E M g p 'o' j g1 g2);have eb:=dU e';have N:l.length=(BU l m).length:=by rw[dR,<-i,Nat.min_self]
   rw[G,N,dQ] at q Z;have J:b=(BU l m).all id:=by rw[eb,i];simp
   rw[J];exact⟨q,Z⟩
  ·rw[if_neg i] at e'
   cases e';exact{RcAt.lists_lengths T.isList U.isList (by rw[G,W];simpa using i) h,RcNeAt.lists_lengths T.isList U.isList (by rw[G,W];simpa using i) h}
 cases o with
 | int i=>
   cases d with
   | int j=>
     have N:=Is.int_iff.mp u;have J:=Is.int_iff.mp z;subst N J;obtain⟨t,rfl⟩:=B;obtain⟨Y,rfl⟩:=v;cases (show some _=some _ from e);exact{RcAt.int_int i t j Y,RcNeAt.int_int i t j Y}
   | _=>exact aC e
 | str i=>
   cases d with
   | str j=>
     have N:=Is.str_iff.mp u;have J:=Is.str_iff.mp z;subst N J;obtain⟨t,rfl⟩:=B;obtain⟨Y,rfl⟩:=v;cases (show some _=some _ from e);exact{RcAt.str_str i t j Y,RcNeAt.str_str i t j Y}
   | _=>exact aC e
 | bl i=>
   cases d with
   | bl j=>
     have N:=Is.bl_iff.mp u;have J:=Is.bl_iff.mp z;subst N J;cases B;cases v;cases (show some _=some _ from e);exact{RcAt.bool_bool i j,RcNeAt.bool_bool i j}
   | _=>exact aC e
 | non=>
   cases d with
   | non=>
     have N:=Is.non_iff.mp u;have J:=Is.non_iff.mp z;subst N J;cases B;cases v;cases (show some _=some _ from e);exact⟨RcAt.none_none,RcNeAt.none_none⟩
   | _=>exact aC e
 | tup l=>
   cases d with
   | tup m=>
     obtain⟨a,vs,ea,s1,R⟩:=Is.tup_sq u;obtain⟨a',us,Q,s2,E⟩:=Is.tup_sq z;subst ea Q;cases B;cases v;obtain⟨r,M,T,_⟩:=I.tuple s1;obtain⟨f,g,U,_⟩:=I.tuple s2;have hd':D.depL l+1<=n:=C;have p:∀{o d:D} {b:Bool} {P O:V} {y x:Value},o.dep<=n-1->D.eqq o d=some b->Is X.K A1 H o P->Is X.K A2 H d O->Am P y->Am O x->EqAt A.in1 s y x b:=
      λC e u z B v=>gB I (n-1) (A:=A.in1) C (by rw[Around.in1_units];omega) e u z B v
     have q:=RcAt.tuples (A:=A) (e:=λj=>(BU l m).getD j false) (show s.heap.IsTuple a r.toArray from T) (show s.heap.IsTuple a' f.toArray from U) h (λj g1 g2=>cX e R E M g p 'o' j g1 g2);have Z:=RcNeAt.tuples (A:=A) (e:=λj=>(BU l m).getD j false) (show s.heap.IsTuple a r.toArray from T) (show s.heap.IsTuple a' f.toArray from U) h (λj g1 g2=>cX e R E M g p 'o' j g1 g2);have eb:=dU e;have G:r.toArray.size=l.length:=by rw[AX,<-M.length,<-R.length]
     have W:f.toArray.size=m.length:=by rw[AX,<-g.length,<-E.length]
     rw[G,W,<-dR,dQ,<-eb] at q Z;exact⟨q,Z⟩
   | _=>exact aC e
 | lst l=>
   cases d with
   | lst m=>exact c rfl rfl C e
   | fl m=>exact c rfl rfl C e
   | _=>exact aC e
 | dct _ _=>cases d<;>exact aC e
 | fl l=>
   cases d with
   | lst m=>exact c rfl rfl C e
   | fl m=>exact c rfl rfl C e
   | _=>exact aC e
 | fd _ _=>cases d<;>exact aC e
def Ik(K:FG)(neg:Bool):R2:=λx y H Q=>∃(A:Addr->Prop) (d1 d2:D) (b:Bool),Is K A H d1 x/\Is K A H d2 y/\d1.dep<=30/\D.eqq d1 d2=some b/\Q (.bl (if neg then !b else b)) H
def qC{k:Nat}(d:AT k X.A):A8 X (compareOp .Eq) (Ik X.K false):=by
 intro a s Y H x y v u Q I c g h;obtain⟨A,l,j,b,a,i,f,e,q⟩:=h;exact(jU I (n:=30) f (by have:=d.units;omega) e a i c g).1 _ _ _ _ {.bl b,H,I,rfl,q}
def w0{k:Nat}(d:AT k X.A):A8 X (compareOp .NotEq) (Ik X.K true):=by
 intro a s Y H x y v u Q I c g h;obtain⟨A,l,j,b,a,i,f,e,q⟩:=h;exact(jU I (n:=30) f (by have:=d.units;omega) e a i c g).2 _ _ _ _ {.bl (!b),H,I,rfl,q}
def By(x:D):List D->Option Bool
 | []=>some false
 | d::l=>(D.eqq d x).bind λb=>(By x l).map λc=>b||c
def Il(K:FG)(neg:Bool):R2:=λx y H Q=>∃(A:Addr->Prop) (d:D) (l:List D) (b:Bool),Is K A H d x/\(Is K A H (.lst l) y\/Is K A H (.tup l) y)/\D.depL l<=30/\By d l=some b/\Q (.bl (if neg then !b else b)) H
open Classical in
def E8(x:D)(l:List D)(us:List Value)(u:Value):Bool:=decide (∃(j:Nat) (d:D),us[j]?=some u/\l[j]?=some d/\D.eqq d x=some true)
def e6:E8 x l us u=true↔∃(j:Nat) (d:D),us[j]?=some u/\l[j]?=some d/\D.eqq d x=some true:=by
 classical
 delta E8;exact decide_eq_true_iff
theorem jV:∀{l:List D} {b:Bool},By x l=some b->∀(j:Nat) (d:D),l[j]?=some d->∃c,D.eqq d x=some c
 | [],_,_,_,_,h=>by simp at h
 | a::l,b,e,j,d,h=>by
   unfold By at e;cases b:D.eqq a x with
   | none=>rw[b] at e;cases e
   | some c=>
     cases a:By x l with
     | none=>rw[b,a] at e;cases e
     | some f=>
       cases j with
       | zero=>simp at h;subst h;exact⟨c,b⟩
       | succ j=>exact jV a j d (by simpa using h)
theorem jW:∀{l:List D} {b:Bool},By x l=some b->(b=true↔∃(j:Nat) (d:D),l[j]?=some d/\D.eqq d x=some true)
 | [],b,e=>by
   unfold By at e;cases e;constructor
   ·intro h;cases h
   ·rintro ⟨j,d,h,_⟩;simp at h
 | a::l,b,e=>by
   unfold By at e;cases f:D.eqq a x with
   | none=>rw[f] at e;cases e
   | some c=>
     cases g:By x l with
     | none=>rw[f,g] at e;cases e
     | some i=>
       rw[f,g] at e;have e:some (c||i)=some b:=e;cases e;have c:=jW g;rw[Bool.or_eq_true];constructor
       ·rintro (h | h)
        ·subst h;exact{0,a,rfl,f}
        ·obtain⟨j,d,a,b⟩:=c.mp h
         exact{j+1,d,by simpa using a,b}
       ·rintro ⟨j,d,a,b⟩
        cases j with
        | zero=>
          simp at a;subst a;rw[f] at b;cases b;exact .inl rfl
        | succ j=>exact .inr (c.mpr {j,d,by simpa using a,b})
def dV(I:Ab X G Y H s){b:Bool}(C:D.depL l<=30)(q:A.units+30<cLine)(e:By x l=some b)(i:aa X.K A1 H l E)(B:Aq E a)(h:Is X.K A1 H x v)(r:Am v u) :
 (∀y∈a.toArray,EqAt A s y u (E8 x l a y))/\a.toArray.any (E8 x l a)=b:=by
 have n:∀(j:Nat) (y:Value),a[j]?=some y->∃d w,l[j]?=some d/\Is X.K A1 H d w/\Am w y:=λj y g=>by
  have m:j<a.length:=(AQ.mp g).1;have b:j<l.length:=by rw[i.length,B.length];exact m
  obtain⟨w,c,v⟩:=i.get (AO b);obtain⟨o,f,z⟩:=B.get c;rw[g] at f;cases f;exact{_,w,AO b,v,z}
 have o:∀(j:Nat) (y:Value) (d:D) (c:Bool),a[j]?=some y->l[j]?=some d->D.eqq d x=some c->EqAt A s y u c:=λj y d c g p s=>by
  obtain⟨u,w,b,v,z⟩:=n j y g;rw[p] at b;cases b;exact gB I 30 (Az (gA p) C) q s v h z r
 constructor
 ·intro y g
  by_cases p:∃(j:Nat) (d:D),a[j]?=some y/\l[j]?=some d/\D.eqq d x=some true
  ·obtain⟨j,d,q,b,h⟩:=p
   have:E8 x l a y=true:=e6.mpr ⟨j,d,q,b,h⟩;rw[this];exact o j y d true q b h
  ·have:E8 x l a y=false:=by cases q:E8 x l a y with
    | false=>rfl
    | true=>exact(p (e6.mp q)).elim
   rw[this];obtain⟨j,m,q⟩:=List.mem_iff_getElem.mp (show y∈a by simpa using g);have f:a[j]?=some y:=by rw[AO m,q]
   obtain⟨d,w,b,v,z⟩:=n j y f;obtain⟨c,s⟩:=jV e j d b;cases c with
   | false=>exact o j y d false f b s
   | true=>exact(p ⟨j,d,f,b,s⟩).elim
 ·apply FK.mpr
  rw[jW e];have c:a.toArray.any (E8 x l a)=a.any (E8 x l a):=by simp
  rw[c,List.any_eq_true];constructor
  ·rintro ⟨y,_,g⟩
   obtain⟨j,d,_,b,h⟩:=e6.mp g;exact⟨j,d,b,h⟩
  ·rintro ⟨j,d,b,h⟩
   have m:j<a.length:=by rw[<-B.length,<-i.length];exact(AQ.mp b).1
   refine{a[j],List.getElem_mem m,?_};exact e6.mpr {j,d,AO m,b,h}
def w3{k:Nat}(a:AT k X.A):A8 X (compareOp .In) (Il X.K false):=by
 intro b s Y H x y v u Q I m o h;obtain⟨A,d,l,b,j,c,n,e,q⟩:=h;have l:X.A.in1.units+30<cLine:=by rw[Around.in1_units];have:=a.units;omega
 rcases c with c | c
 ·obtain⟨a,r,d,_,g,h⟩:=Is.lst_iff.mp c
  subst d;cases o;obtain⟨i,f,p,_⟩:=I.list (.of g);obtain⟨g1,g2⟩:=dV I n l e h f j m;exact in_listAt _ p.isList g1 {.bl b,H,I,by rw[g2];rfl,q}
 ·obtain⟨a,r,d,g,h⟩:=Is.tup_sq c
  subst d;cases o;obtain⟨i,f,p,_⟩:=I.tuple g;obtain⟨g1,g2⟩:=dV I n l e h f j m;exact in_tupleAt _ p g1 {.bl b,H,I,by rw[g2];rfl,q}
def w5{k:Nat}(a:AT k X.A):A8 X (compareOp .NotIn) (Il X.K true):=by
 intro b s Y H x y v u Q I m o h;obtain⟨A,d,l,b,j,c,n,e,q⟩:=h;have l:X.A.in1.units+30<cLine:=by rw[Around.in1_units];have:=a.units;omega
 rcases c with c | c
 ·obtain⟨a,r,d,_,g,h⟩:=Is.lst_iff.mp c
  subst d;cases o;obtain⟨i,f,p,_⟩:=I.list (.of g);obtain⟨g1,g2⟩:=dV I n l e h f j m;exact notIn_listAt _ p.isList g1 {.bl (!b),H,I,by rw[g2];rfl,q}
 ·obtain⟨a,r,d,g,h⟩:=Is.tup_sq c
  subst d;cases o;obtain⟨i,f,p,_⟩:=I.tuple g;obtain⟨g1,g2⟩:=dV I n l e h f j m;exact notIn_tupleAt _ p g1 {.bl (!b),H,I,by rw[g2];rfl,q}
variable{S:Type}{W:Wd S}{c:Dx W}
def Bh(neg:Bool)(a b:D):Option D:=if a.dep<=30 then (D.eqq a b).map λx=>.bl (if neg then !x else x) else none
def EJ(neg:Bool)(a b:D):Option D:=match b with
 | .lst l=>if D.depL l<=30 then (By a l).map λx=>.bl (if neg then !x else x) else none
 | .tup l=>if D.depL l<=30 then (By a l).map λx=>.bl (if neg then !x else x) else none
 | _=>none
open H in
def w6{K:FG}{a:Bool}(b:c.K=K):Bx c (Ik K a) (Bh a):=by
 subst b;intro f a h e H l d Q g j i e q;delta Bh at e;split at e
 ·rename_i d
  cases h:D.eqq f a with
  | none=>rw[h] at e;cases e
  | some b=>
    rw[h] at e;cases e;exact{_,f,a,b,j,i,d,h,q _ H Ah.refl g bh}
 ·cases e
open H in
def w7{K:FG}{a:Bool}(b:c.K=K):Bx c (Il K a) (EJ a):=by
 subst b;intro f h g e H a d Q j i g e q;delta EJ at e;split at e
 ·rename_i l
  split at e
  ·rename_i a
   cases h:By f l with
   | none=>rw[h] at e;cases e
   | some b=>
     rw[h] at e;cases e;exact{_,f,l,b,i,.inl g,a,h,q _ H Ah.refl j bh}
  ·cases e
 ·rename_i l
  split at e
  ·rename_i a
   cases h:By f l with
   | none=>rw[h] at e;cases e
   | some b=>
     rw[h] at e;cases e;exact{_,f,l,b,i,.inr g,a,h,q _ H Ah.refl j bh}
  ·cases e
 ·cases e
end
section
variable{X:Cx}{S:Type}{W:Wd S}{c:Dx W}{g:Gr}{a b e:Expr}{rest:List Expr}{pos:Pos}{fa fb fc:Fn S}{ga gb gc:Gr}
def Im(S:Type)(f1 f2:Fn S):Fn S:=λZ st=>(f1 Z st).bind λd st1=>match d with
 | .bl true=>f2 Z st1
 | .bl false=>.ok (.bl false) st1
 | _=>.bad
def JB(S:Type)(f1 f2:Fn S):Fn S:=λZ st=>(f1 Z st).bind λd st1=>match d with
 | .bl true=>.ok (.bl true) st1
 | .bl false=>f2 Z st1
 | _=>.bad
def JC(S:Type)(f1:Fn S):Fn S:=λZ st=>(f1 Z st).bind λd st1=>match d with
 | .bl b=>.ok (.bl (!b)) st1
 | _=>.bad
def w8{op}(h:DE X c g a f):DE X c g (.BoolOp op [a] pos) f:=nW h
def xa(d:DE X c ga a fa)(f:DE X c g (.BoolOp .And (b::rest) pos) fb):DE X c g (.BoolOp .And (a::b::rest) pos) (Im S fa fb):=
 (nX d f).imp λY H Q hI31=>by
  obtain⟨Z,d,R,h,w⟩:=hI31;refine aU (Go.bind (g':=ga) (k:=λd Z f=>match d with | .bl true=>fb Z f | .bl false=>.ok (.bl false) f | _=>.bad) R h w) λv H1 hI112=>?_
  obtain⟨d,f,j,h,l,z,i⟩:=hI112;cases d with
  | bl k=>
    have d:v=.bl k:=Is.bl_iff.mp (show Is c.K 'w' H1 (.bl k) v from z.toR);refine{k,d,?_};cases k with
    | true=>exact cV ⟨Z,f,j,h,i⟩
    | false=>exact dE (i (.bl false) H1 Ah.refl h (AB.val j bh g))
  | _=>exact(show False from i).elim
def xb(d:DE X c ga a fa)(f:DE X c g (.BoolOp .Or (b::rest) pos) fb):DE X c g (.BoolOp .Or (a::b::rest) pos) (JB S fa fb):=
 (nY d f).imp λY H Q hI32=>by
  obtain⟨Z,d,R,h,w⟩:=hI32;refine aU (Go.bind (g':=ga) (k:=λd Z f=>match d with | .bl true=>.ok (.bl true) f | .bl false=>fb Z f | _=>.bad) R h w) λv H1 hI113=>?_
  obtain⟨d,f,j,h,l,z,i⟩:=hI113;cases d with
  | bl k=>
    have d:v=.bl k:=Is.bl_iff.mp (show Is c.K 'w' H1 (.bl k) v from z.toR);refine{k,d,?_};cases k with
    | false=>exact dE ⟨Z,f,j,h,i⟩
    | true=>exact cV (i (.bl true) H1 Ah.refl h (AB.val j bh g))
  | _=>exact(show False from i).elim
def xc(d:DE X c ga a fa):DE X c g (.UnaryOp .Not a pos) (JC S fa):=
 (n3 d).imp λY H Q hI33=>by
  obtain⟨Z,d,R,h,w⟩:=hI33;refine aU (Go.bind (g':=ga) (k:=λd Z f=>match d with | .bl b=>.ok (.bl (!b)) f | _=>.bad) R h w) λv H1 hI114=>?_
  obtain⟨d,f,j,h,l,z,i⟩:=hI114;cases d with
  | bl k=>
    have d:v=.bl k:=Is.bl_iff.mp (show Is c.K 'w' H1 (.bl k) v from z.toR);exact{k,d,i (.bl (!k)) H1 Ah.refl h (AB.val j bh g)}
  | _=>exact(show False from i).elim
def GK(S:Type)(o o':D->D->Option D)(f1 f2 f3:Fn S):Fn S:=λZ st=>(f1 Z st).bind λd1 st1=>(f2 Z st1).bind λd2 st2=>match o d1 d2 with
 | some (.bl true)=>(f3 Z st2).bind λd3 st3=>Au (o' d2 d3) st3
 | some (.bl false)=>.ok (.bl false) st2
 | _=>.bad
def qD(hr:Bx c r o)(A:Bx c r' o')(h:tD c g (GK S o o' fa fb fc) Y H Q):Jq r r' (tD c ga fa) (tD c gb fb) (tD c gc fc) Y H Q:=by
 obtain⟨Z,C,R,ok,w⟩:=h;refine aU (Go.bind (g':=ga) (k:=λy Z u=>(fb Z u).bind λj i=>match o y j with | some (.bl true)=>(fc Z i).bind λm f=>Au (o' j m) f | some (.bl false)=>.ok (.bl false) i | _=>.bad) R ok w) λv1 H1 hI115=>?_
 obtain⟨y,u,R1,z,e1,U,N⟩:=hI115;refine aU (Go.bind (g':=gb) (k:=λj Z i=>match o y j with | some (.bl true)=>(fc Z i).bind λm f=>Au (o' j m) f | some (.bl false)=>.ok (.bl false) i | _=>.bad) R1 z N) λG H2 hI116=>?_
 obtain⟨j,i,R2,p,T,E,s⟩:=hI116;cases q:o y j with
 | none=>simp only[q] at s;exact(show False from s).elim
 | some d=>
   simp only[q] at s;cases d with
   | bl k=>
     refine hr y j v1 G H2 i (.bl k) _ p (U.toR.ext T z) E.toR q λv B e' l n=>?_
     refine{k,Is.bl_iff.mp n,?_};have P:=R2.ext p e';cases k with
     | false=>exact dE (s (.bl false) B e' l (AB.val R2 bh g))
     | true=>
       refine cV ?_;have M:Go c g Y (λZ C=>(fc Z C).bind λm f=>Au (o' j m) f) H2 Q Z i:=s;refine aU (Go.bind (g':=gc) (k:=λm _ f=>Au (o' j m) f) P l (M.from e' l)) λO H3 hI117=>?_
       obtain⟨m,f,I,x,e3,z3,w4⟩:=hI117;obtain⟨d,J,q5⟩:=Go.done w4 x;exact A j m G O H3 f d Q x ((E.toR.ext e' p).ext e3 l) z3.toR J λv B a b n=>q5 v B a b (n.val I g)
   | _=>exact(show False from s).elim
def xf(h:A8 X (compareOp op) r)(f:A8 X (compareOp op') r')(p:Bx c r o)(i:Bx c r' o')(n:DE X c ga a fa)(m:DE X c gb b fb)(j:DE X c gc d fc)(l:autoParam (lastMarks [op,op'] [b,d]=false) Nc._auto_1):DE X c g (.Compare a [op,op'] [b,d] pos) (GK S o o' fa fb fc):=
 (oz h f n m j l).imp λY H Q h=>qD p i h
instance D.isNon:D->Bool
 | .non=>true
 | _=>false
def CT(neg:Bool)(a b:D):Option D:=match b with
 | .non=>some (.bl (if neg then !a.isNon else a.isNon))
 | _=>none
def jX{K:FG}{A:Addr->Prop}{H:Hp}{d:D}{v:V}(h:Is K A H d v):(decide (v=V.non))=d.isNon:=by
 cases d with
 | non=>rw[Is.non_iff.mp h];rfl
 | bl b=>rw[Is.bl_iff.mp h];rfl
 | int i=>rw[Is.int_iff.mp h];rfl
 | str x=>rw[Is.str_iff.mp h];rfl
 | tup l=>obtain⟨a,d,e,_⟩:=Is.tup_sq h;rw[e];rfl
 | lst l=>obtain⟨a,d,e,_⟩:=Is.lst_iff.mp h;rw[e];rfl
 | dct k l=>obtain⟨a,d,e,_⟩:=Is.dct_iff.mp h;rw[e];rfl
 | fl l=>obtain⟨a,o,d,e,_⟩:=Is.fl_iff.mp h;rw[e];rfl
 | fd k l=>obtain⟨a,o,d,f,e,_⟩:=Is.fd_iff.mp h;rw[e];rfl
def xg:Bx c (λx y H Q=>y=.non/\Q (.bl (decide (x=.non))) H) (CT false):=by
 intro h f i m H l d Q h j i e q;cases f with
 | non=>
   cases e;refine{Is.non_iff.mp i,?_};rw[jX j];exact q _ H Ah.refl h bh
 | _=>cases e
def xh:Bx c (λx y H Q=>y=.non/\Q (.bl (!decide (x=.non))) H) (CT true):=by
 intro h f i m H l d Q h j i e q;cases f with
 | non=>
   cases e;refine{Is.non_iff.mp i,?_};rw[jX j];exact q _ H Ah.refl h bh
 | _=>cases e
def JD(S:Type)(t:A9 S)(f1 f2:Fn S):Fn S:=λZ st=>(t Z st).bind λk st1=>if k=true then f1 Z st1 else f2 Z st1
def JE(S:Type)(f:Fn S):Fn S:=λZ st=>(f Z st).bind λd st1=>match d with
 | .int i=>.ok (.int (-i)) st1
 | _=>.bad
def xi(d:DE X c ga a fa):DE X c g (.UnaryOp .USub a pos) (JE S fa):=
 (om ou d).imp λY H Q hI34=>by
  obtain⟨Z,d,R,h,w⟩:=hI34;refine aU (Go.bind (g':=ga) (k:=λd _ f=>match d with | .int i=>.ok (.int (-i)) f | _=>.bad) R h w) λv H1 hI118=>?_
  obtain⟨d,f,l,h,m,z,j⟩:=hI118;cases d with
  | int i=>exact{i,Is.int_iff.mp (show Is c.K 'w' H1 (.int i) v from z.toR),j (.int (-i)) H1 Ah.refl h (AB.val l bP g)}
  | _=>exact(show False from j).elim
end
instance D.ty:D->String
 | .non=>"NoneType"
 | .bl _=>"bool"
 | .int _=>"int"
 | .str _=>"str"
 | .tup _=>"tuple"
 | .lst _=>"list"
 | .dct _ _=>"dict"
 | .fl _=>"list"
 | .fd _ _=>"dict"
inductive Bt where
 | int | bool | str | list | tuple | dict
instance Bt.nm:Bt->String
 | .int=>"int"
 | .bool=>"bool"
 | .str=>"str"
 | .list=>"list"
 | .tuple=>"tuple"
 | .dict=>"dict"
def BZ(T:Bt)(d:D):Bool:=match T,d with
 | .int,.int _=>true
 | .int,.bl _=>true
 | .bool,.bl _=>true
 | .str,.str _=>true
 | .list,.lst _=>true
 | .list,.fl _=>true
 | .tuple,.tup _=>true
 | .dict,.dct _ _=>true
 | .dict,.fd _ _=>true
 | _,_=>false
def qE(K:FG)(T:Bt)(d:D):PySem.W.kitOne K (.type d.ty) (.type T.nm)=some (BZ T d):=by
 cases T<;>cases d<;>first | rfl | decide
section
variable{X:Cx}{A5:List 'p'}{Y:St}{H:Hp}{s:Shared}
def qF(T:Bt)(I:Ab X A5 Y H s)(h:Is X.K A H d v)(r:Am v u)(c:∀a,Q (.bool (BZ T d)) { s with toks:=a }) :
 wpAny 'e' A0 (call (.builtin "isinstance") [u,.type T.nm]) Q E s:=by
 have e:=qE X.K T d;cases d with
 | non=>rw[Is.non_iff.mp h] at r;exact cp I r .non e c
 | bl b=>rw[Is.bl_iff.mp h] at r;exact cp I r (.bl b) e c
 | int i=>rw[Is.int_iff.mp h] at r;exact cp I r (.int i) e c
 | str x=>rw[Is.str_iff.mp h] at r;exact cp I r (.str x) e c
 | lst l=>obtain⟨a,f,d,_,b,_⟩:=Is.lst_iff.mp h;rw[d] at r;exact cp I r (.lst b) e c
 | fl l=>obtain⟨a,o,f,d,b,_⟩:=Is.fl_iff.mp h;rw[d] at r;exact cp I r (.frz b) e c
 | dct k l=>
   obtain⟨a,f,d,_,_,q⟩:=Is.dct_iff.mp h;rw[d] at r;rcases q with⟨_,_,_,b⟩ | ⟨_,_,_,b⟩
   ·exact cp I r (.dK b) e c
   ·exact cp I r (.dT b) e c
 | fd k l=>
   obtain⟨a,m,f,j,d,_,_,b,_⟩:=Is.fd_iff.mp h;rw[d] at r;cases (show u=Value.ref a from r);obtain⟨_,_,_,p,_,o,es,n,g,i,_⟩:=(show Bv X.prog X.w H s.heap a (.frz m (.dT (j.zip f))) from I.hok a _ b);exact PySem.W.kia_one PySem.W.kitx_dict I.kIn ⟨o,g,i.1⟩ e (λz=>nomatch z) c
 | tup l=>
   obtain⟨a,f,d,b,_⟩:=Is.tup_sq h;rw[d] at r;cases r;obtain⟨a,_,⟨o,g,i,_⟩,_⟩:=I.tuple b;exact PySem.W.kia_one PySem.W.kitx_tuple I.kIn ⟨o,g,i⟩ e (λz=>nomatch z) c
variable{S:Type}{W:Wd S}{c:Dx W}{g ga:Gr}
instance fIs(S:Type)(T:Bt)(f:Fn S):Fn S:=λZ st=>(f Z st).bind λd st1=>.ok (.bl (BZ T d)) st1
def xj{x:Str}(T:Bt)(m:c.K=X.K)(n:Gl X "isinstance")(r:X.mg "isinstance" = none)(h:Gl X x)(b:X.mg x=none)(q:bootBuiltins x=some (.type T.nm))(u:DE X c ga e f)(j:autoParam (starEach (e::[.Name x p2]) X.env=(false,eval e X.env)::starEach [.Name x p2] X.env) uR)(i:autoParam (starEach [.Name x p2] X.env=(false,eval (.Name x p2) X.env)::starEach [] X.env) uR)(a:autoParam ((backTo pos (starEach [.Name x p2] X.env)).any (·.1)=false) uR)(y:autoParam (x≠"__name__") uD)(o:autoParam 'u' uD) :
 DE X c g (.Call (.Name "isinstance" p) [e,.Name x p2] [] pos) (fIs S T f):=by
 have l:PE X (.Call (.Name "isinstance" p) [e,.Name x p2] [] pos) (tCB (λe H Q=>∃A d v,e=[v,.ty T.nm]/\Is X.K A H d v/\Q (.bl (BZ T d)) H) (FM (tD c ga f) (FM (tC (.ty T.nm)) HW))):=by
  refine dC (id:="isinstance") ?_ n r boot_isinstance (aX u (aX (nS h b q rfl y o) bt i) j) 'z' 'z' j a;intro A5 s Y H b us Q I r h;obtain⟨A,d,v,rfl,e,q⟩:=h;obtain⟨u,w',rfl,b,a⟩:=f7 r;cases a;exact qF T I e b λa=>{.bl _,H,I.tok a,rfl,q}
 refine l.imp λY H Q hI119=>?_
 obtain⟨Z,a,R,b,w⟩:=hI119;refine aU (Go.bind (g':=ga) (k:=λd _ a=>.ok (.bl (BZ T d)) a) R b w) λv H1 hI120=>?_
 obtain⟨d,a,f,b,h,z,e⟩:=hI120;exact{_,d,v,rfl,m▸(show Is c.K 'w' H1 d v from z.toR),e _ H1 Ah.refl b (AB.val f bh g)}
end
section
variable{X:Cx}{S:Type}{W:Wd S}{c:Dx W}
def Cw:List D->Option D
 | [.lst l]=>some (.int l.length)
 | [.tup l]=>some (.int l.length)
 | [.fl l]=>some (.int l.length)
 | _=>none
open H in
def xk{K:FG}(a:c.K=K):Ck c (λo H Q=>∃p j,o=[.ref p]/\(AY K H p j\/AS K H p j)/\Q (.int j.length) H) Cw:=by
 subst a;intro l f H b d Q n z e q;delta Cw at e;split at e
 ·rename_i m
  cases e;obtain⟨v,r,b,i,f⟩:=aa.cons.mp z;obtain⟨a,us,d,_,h,g⟩:=Is.lst_iff.mp i;rw[aa.nil.mp f,d] at b;exact{a,us,b,.inl (.of h),by rw[<-g.length];exact q _ H Ah.refl n bP}
 ·rename_i m
  cases e;obtain⟨v,r,b,i,f⟩:=aa.cons.mp z;obtain⟨a,us,d,h,g⟩:=Is.tup_sq i;rw[aa.nil.mp f,d] at b;exact{a,us,b,.inr h,by rw[<-g.length];exact q _ H Ah.refl n bP}
 ·rename_i m
  cases e;obtain⟨v,r,b,i,f⟩:=aa.cons.mp z;obtain⟨a,us,d,h,g,_⟩:=Is.asL i rfl;rw[aa.nil.mp f,d] at b;exact{a,us,b,.inl (.inl h),by rw[<-g.length];exact q _ H Ah.refl n bP}
 ·cases e
def Fv:List D->Option D
 | [.lst l]=>if D.immL l=true then some (.tup l) else none
 | [.tup l]=>if D.immL l=true then some (.tup l) else none
 | _=>none
open H in
def xl{K:FG}(a:c.K=K):Ck c (λs H Q=>∃p g,s=[.ref p]/\((AY K H p g/\∀l,H l=none->Q (.ref l) (Ag H l (.tup g)))\/(AS K H p g/\Q (.ref p) H))) Fv:=by
 subst a;intro l f H b d Q o z e q;delta Fv at e;split at e
 ·rename_i m
  split at e
  ·rename_i im
   cases e;obtain⟨v,r,b,l,i⟩:=aa.cons.mp z;obtain⟨a,us,h,_,d,j⟩:=Is.lst_iff.mp l;rw[aa.nil.mp i,h] at b;exact{a,us,b,.inl {.of d,λp f=>q _ _ (Ah.laid f) (aL o f) (AB.tup o f (λ_ n=>n) im j)}}
  ·cases e
 ·rename_i m
  split at e
  ·rename_i im
   cases e;obtain⟨v,r,b,l,i⟩:=aa.cons.mp z;obtain⟨a,us,h,d,j⟩:=Is.tup_iff.mp l;rw[aa.nil.mp i,h] at b;exact{a,us,b,.inr {.of d,q _ H Ah.refl o (Is.tup d (aa.ofImm im j))}}
  ·cases e
 ·cases e
def GL:List D->Option D
 | [.lst l]=>if D.immL l=true then some (.lst l) else none
 | [.tup l]=>if D.immL l=true then some (.lst l) else none
 | _=>none
open H in
def xn{K:FG}(a:c.K=K):Ck c (λs H Q=>∃p g,s=[.ref p]/\(AY K H p g\/AS K H p g)/\∀l,H l=none->Q (.ref l) (Ag H l (.lst g))) GL:=by
 subst a;intro l h H b d Q f z e q;delta GL at e;split at e
 ·rename_i m
  split at e
  ·rename_i im
   cases e;obtain⟨v,r,d,o,i⟩:=aa.cons.mp z;obtain⟨a,us,h,_,l,j⟩:=Is.lst_iff.mp o;rw[aa.nil.mp i,h] at d;exact{a,us,d,.inl (.of l),λp b=>q _ _ (Ah.laid b) (aL f b) (AB.lst f b (λ_ n=>n) im j)}
  ·cases e
 ·rename_i m
  split at e
  ·rename_i im
   cases e;obtain⟨v,r,d,o,i⟩:=aa.cons.mp z;obtain⟨a,us,h,l,j⟩:=Is.tup_sq o;rw[aa.nil.mp i,h] at d;exact{a,us,d,.inr l,λp b=>q _ _ (Ah.laid b) (aL f b) (AB.lst f b (λ_ n=>n) im j)}
  ·cases e
 ·cases e
def GM:List D->Option D
 | [.int i]=>some (.int i)
 | [.bl k]=>some (.int (if k then 1 else 0))
 | _=>none
open H in
def xo:Ck c (λf H Q=>(∃i,f=[.int i]/\Q (.int i) H)\/∃k,f=[.bl k]/\Q (.int (if k then 1 else 0)) H) GM:=by
 intro l b H a d Q g z e q;delta GM at e;split at e
 ·rename_i i
  cases e;obtain⟨v,r,a,b,d⟩:=aa.cons.mp z;rw[aa.nil.mp d,Is.int_iff.mp b] at a;exact .inl {i,a,q _ H Ah.refl g bP}
 ·rename_i i
  cases e;obtain⟨v,r,a,b,d⟩:=aa.cons.mp z;rw[aa.nil.mp d,Is.bl_iff.mp b] at a;exact .inr {i,a,q _ H Ah.refl g bP}
 ·cases e
def Io(f:Int->Int->Int):List D->Option D
 | [.int i,.int j]=>some (.int (f i j))
 | _=>none
open H in
def xp(f:Int->Int->Int):Ck c (λm H Q=>∃i j,m=[.int i,.int j]/\Q (.int (f i j)) H) (Io f):=by
 intro l b H a d Q n z e q;delta Io at e;split at e
 ·rename_i i j
  cases e;obtain⟨v,r,f,h,g⟩:=aa.cons.mp z;obtain⟨v',r',d,a,b⟩:=aa.cons.mp g;rw[d,aa.nil.mp b,Is.int_iff.mp h,Is.int_iff.mp a] at f;exact{i,j,f,q _ H Ah.refl n bP}
 ·cases e
def Do:List D->Option (List Bool)
 | []=>some []
 | .bl b::l=>(Do l).map λr=>b::r
 | _=>none
theorem jY{K:FG}{A:Addr->Prop}{H:Hp}:∀{l:List D} {a:List V} {d:List Bool},Do l=some d->aa K A H l a->a=d.map V.bl
 | [],a,d,e,h=>by cases e;exact aa.nil.mp h
 | .bl b::l,a,d,e,h=>by
   unfold Do at e;cases q:Do l with
   | none=>rw[q] at e;cases e
   | some r=>
     rw[q] at e;cases e;obtain⟨v,us,b,d,f⟩:=aa.cons.mp h;rw[b,Is.bl_iff.mp d,jY q f];rfl
 | .non::_,_,_,e,_=>by simp[Do] at e
 | .int _::_,_,_,e,_=>by simp[Do] at e
 | .str _::_,_,_,e,_=>by simp[Do] at e
 | .tup _::_,_,_,e,_=>by simp[Do] at e
 | .lst _::_,_,_,e,_=>by simp[Do] at e
 | .dct _ _::_,_,_,e,_=>by simp[Do] at e
def E9(f:List Bool->Bool):List D->Option D
 | [.lst l]=>(Do l).map λbs=>.bl (f bs)
 | _=>none
open H in
def xq{K:FG}(f:List Bool->Bool):Ck c (λn H Q=>∃(a:Addr) (b:List Bool),n=[.ref a]/\AY K H a (b.map V.bl)/\Q (.bl (f b)) H) (E9 f):=by
 intro l g H f d Q o z e q;delta E9 at e;split at e
 ·rename_i m
  cases d:Do m with
  | none=>rw[d] at e;cases e
  | some b=>
    rw[d] at e;cases e;obtain⟨v,r,g,l,i⟩:=aa.cons.mp z;obtain⟨a,us,h,_,f,j⟩:=Is.lst_iff.mp l;rw[aa.nil.mp i,h] at g;rw[jY d j] at f;exact{a,b,g,.of f,q _ H Ah.refl o bh}
 ·cases e
def Hu:D->D->Option D
 | .lst l,.lst m=>if D.immL l=true/\D.immL m=true/\l.length+m.length<=sizeLine then some (.lst (l++m)) else none
 | _,_=>none
open H in
def qG:Bx c Hj Hu:=by
 intro g f e b H a d Q g n j e q;delta Hu at e;split at e
 ·rename_i l m
  split at e
  ·rename_i h
   cases e;obtain⟨a,o,i,_,m,f⟩:=Is.lst_iff.mp n;obtain⟨b,us,p,_,l,d⟩:=Is.lst_iff.mp j;exact{a,b,o,us,i,p,m,l,by rw[<-f.length,<-d.length];exact h.2.2,λp a=>q _ _ (Ah.laid a) (aL g a) (AB.lst g a (λ_ n=>n) (bI h.1 h.2.1) (f.append d))}
  ·cases e
 ·cases e
def Ip:D->D->Option D
 | .tup l,.tup m=>if D.immL l=true/\D.immL m=true/\l.length+m.length<=sizeLine/\l.isEmpty=false then some (.tup (l++m)) else none
 | _,_=>none
open H in
def qH{K:FG}(a:c.K=K):Bx c (Hi K) Ip:=by
 subst a;intro g h f e H b d Q g n p e q;delta Ip at e;split at e
 ·rename_i l m
  split at e
  ·rename_i h
   cases e;obtain⟨a,j,o,i,d⟩:=Is.tup_iff.mp n;obtain⟨b,us,s,r,f⟩:=Is.tup_sq p;have n:j≠[]:=λz=>by
    have:=d.length;rw[z] at this;have p:=h.2.2.2;cases l with
    | nil=>cases p
    | cons _ _=>cases this
   refine{a,b,j,us,o,s,.of i,r,n,by rw[<-d.length,<-f.length];exact h.2.2.1,λb=>?_,λ_ p a=>q _ _ (Ah.laid a) (aL g a) (AB.tup g a (λ_ n=>n) (bI h.1 h.2.1) (d.append f))};have a:m=[]:=by
    have:=f.length;rw[b] at this;exact Hb.mp this
   rw[a,Cp] at q;exact q _ H Ah.refl g (Is.tup i (aa.ofImm h.1 d))
  ·cases e
 ·cases e
end
def GN:D->Option Aw
 | .int i=>some (.inl i)
 | .str x=>some (.inr x)
 | _=>none
def EQ:List D->Option (List Aw)
 | []=>some []
 | d::l=>(GN d).bind λk=>(EQ l).map λr=>k::r
def Ge:D->Option Al
 | .int i=>some (.inl i)
 | .str x=>some (.inr x)
 | .tup l=>(EQ l).map .t
 | _=>none
def ER:List D->Option (List Al)
 | []=>some []
 | d::l=>(Ge d).bind λk=>(ER l).map λr=>k::r
def AN:D->Option (List Al)
 | .tup l=>ER l
 | _=>none
def qI(k:Aw):GN (Ct k)=some k:=by cases k<;>rfl
theorem jZ:∀k:List Aw,EQ (k.map Ct)=some k
 | []=>rfl
 | a::k=>by
   show (GN (Ct a)).bind (λx=>(EQ (k.map Ct)).map λr=>x::r)=some (a::k);rw[qI,jZ k];rfl
theorem qJ:∀k:Al,Ge (Ep k)=some k
 | .inl _=>rfl
 | .inr _=>rfl
 | .t l=>by show (EQ (l.map Ct)).map Al.t=_;rw[jZ];rfl
theorem j0:∀k:List Al,ER (k.map Ep)=some k
 | []=>rfl
 | a::k=>by
   show (Ge (Ep a)).bind (λx=>(ER (k.map Ep)).map λr=>x::r)=some (a::k);rw[qJ,j0 k];rfl
def cY(k:List Al):AN (AD k)=some k:=j0 k
section
variable{K:FG}{A:Addr->Prop}{H:Hp}
def qK(e:GN d=some k)(h:Is K A H d v):v=kV k/\d=Ct k:=by
 cases d with
 | int i=>cases e;exact{Is.int_iff.mp h,rfl}
 | str x=>cases e;exact{Is.str_iff.mp h,rfl}
 | _=>cases e
theorem j3:∀{l:List D} {k:List Aw} {c:List V},EQ l=some k->aa K A H l c->c=k.map kV/\l=k.map Ct
 | [],k,c,e,h=>by cases e;exact{aa.nil.mp h,rfl}
 | d::l,k,c,e,h=>by
   unfold EQ at e;cases b:GN d with
   | none=>rw[b] at e;cases e
   | some a=>
     cases f:EQ l with
     | none=>rw[b,f] at e;cases e
     | some r=>
       rw[b,f] at e;have e:some (a::r)=some k:=e;cases e;obtain⟨v,us,i,j,m⟩:=aa.cons.mp h;obtain⟨o,n⟩:=qK b j;obtain⟨p,g⟩:=j3 f m;subst i o p;exact{rfl,by rw[n,g];rfl}
def qL(e:Ge d=some k)(h:Is K A H d v):KIs H k v/\d=Ep k:=by
 cases d with
 | int i=>cases e;exact{Is.int_iff.mp h,rfl}
 | str x=>cases e;exact{Is.str_iff.mp h,rfl}
 | tup l=>
   obtain⟨b,c,a,s,i⟩:=Is.tup_iff.mp h;have e:(EQ l).map Al.t=some k:=e;cases q:EQ l with
   | none=>rw[q] at e;cases e
   | some r=>
     rw[q] at e;cases e;obtain⟨d,c⟩:=j3 q i;exact{{b,a,by rw[<-d];exact s},by rw[c];rfl}
 | _=>cases e
theorem j4:∀{l:List D} {k:List Al} {c:List V},ER l=some k->aa K A H l c->Paired (KIs H) k c/\l=k.map Ep
 | [],k,c,e,h=>by cases e;cases aa.nil.mp h;exact{.nil,rfl}
 | d::l,k,c,e,h=>by
   unfold ER at e;cases b:Ge d with
   | none=>rw[b] at e;cases e
   | some a=>
     cases f:ER l with
     | none=>rw[b,f] at e;cases e
     | some r=>
       rw[b,f] at e;have e:some (a::r)=some k:=e;cases e;obtain⟨v,us,i,j,m⟩:=aa.cons.mp h;obtain⟨o,n⟩:=qL b j;obtain⟨p,g⟩:=j4 f m;subst i;exact{.cons o p,by rw[n,g];rfl}
def dW(e:AN d=some k)(h:Is K A H d v):∃b,v=.ref b/\C4 H b k/\d=AD k:=by
 cases d with
 | tup l=>
   obtain⟨b,a,c,s,i⟩:=Is.tup_iff.mp h;obtain⟨f,d⟩:=j4 (show ER l=some k from e) i;exact{b,c,⟨a,s,f⟩,by rw[d];rfl}
 | _=>cases e
def AC(k:List Al):List D->List D->Option D
 | d::ks,v::vs=>if AN d=some k then some v else AC k ks vs
 | _,_=>none
theorem gC(k:List Al):∀{a:List (List Al)} {b:List D} {us:List V},a.length=us.length->aa K A H b us->
 (AC k (a.map AD) b=none/\Cj (a.zip us) k=none)\/∃d v,AC k (a.map AD) b=some d/\Cj (a.zip us) k=some v/\Is K A H d v
 | [],b,us,c,h=>.inl {by unfold AC;cases b<;>rfl,rfl}
 | x::a,b,us,c,h=>by
   cases b with
   | nil=>rw[aa.nil.mp h] at c;cases c
   | cons d b=>
     obtain⟨v,r,e,g,i⟩:=aa.cons.mp h;subst e;have f:a.length=r.length:=by simpa using c
     by_cases e:x=k
     ·refine .inr {d,v,?_,cC (p:=(x,v)) e,g}
      show (if AN (AD x)=some k then some d else _)=some d;rw[cY,if_pos (by rw[e])]
     ·have e':¬AN (AD x)=some k:=by rw[cY];exact λz=>e (Option.some.inj z)
      have c:AC k ((x::a).map AD) (d::b)=AC k (a.map AD) b:=by
       show (if AN (AD x)=some k then some d else _)=_;rw[if_neg e']
      have d:Cj ((x::a).zip (v::r)) k=Cj (a.zip r) k:=cD (p:=(x,v)) e;rw[c,d];exact gC k f i
end
section
variable{X:Cx}{S:Type}{W:Wd S}{c:Dx W}{g ga gb:Gr}{a b:Expr}{pos:Pos}{fa fb:Fn S}
def xr:DE X c g (.Dict [] [] pos) (fC S (.dct [.non] [])):=pO.imp λY H Q ⟨Z,f,R,e,w⟩ p d=>
 w _ _ (Ah.laid d) (aL e d) (AB.val R (Is.dct_iff.mpr {p,[],rfl,{bH e d,d},aa.nil.mpr rfl,.inr {[],rfl,rfl,aw}}) g)
def Dy(neg:Bool)(k d:D):Option D:=match d with
 | .dct (.non::ks) vs=>(AN k).map λkk=>.bl (if neg then !(AC kk ks vs).isSome else (AC kk ks vs).isSome)
 | _=>none
def gD{A:Addr->Prop}{H:Hp}{K:FG}{k:D}{f l:List D}{e:List Al}{n m:V}(u:AN k=some e)(s:Is K A H k n)(I:Is K A H (.dct (.non::f) l) m) :
 ∃a o,m=.ref a/\BS H a n o/\((AC e f l=none/\o=none)\/∃d v,AC e f l=some d/\o=some v/\Is K A H d v):=by
 obtain⟨b,N,J,_⟩:=dW u s;obtain⟨a,us,x,_,i,q⟩:=Is.dct_iff.mp I;rcases q with⟨B,p,_,_⟩ | ⟨G,C,E,y⟩
 ·cases B with
  | nil=>cases p
  | cons z r=>
    have:D.non=Ct z:=(List.cons.inj p).1;cases z<;>cases this
 ·have O:f=G.map AD:=(List.cons.inj C).2
  subst O N;refine{a,_,x,BS.t y J,?_};rcases gC e E i with⟨j,h⟩ | ⟨d,v,j,h,M⟩
  ·exact .inl ⟨j,h⟩
  ·exact .inr ⟨d,v,j,h,M⟩
open H in
def j5{Y:St}{H:Hp}{Q:VK}{d:Bool}(h:tD c g (f2 S (Dy d) fa fb) Y H Q):(λY H Q=>tD c ga fa Y H λy H1=>tD c gb fb Y H1 λx H2=>∃a o,x=.ref a/\BS H2 a y o/\Q (.bl (if d then !o.isSome else o.isSome)) H2) Y H Q:=by
 have u:Bx c (λy x H2 Q=>∃a o,x=.ref a/\BS H2 a y o/\Q (.bl (if d then !o.isSome else o.isSome)) H2) (Dy d):=by
  intro f j i e H l d Q r s i e q;delta Dy at e;split at e
  ·rename_i n p
   cases d:AN f with
   | none=>rw[d] at e;cases e
   | some l=>
     rw[d] at e;cases e;obtain⟨a,o,f,m,j⟩:=gD d s i;refine{a,o,f,m,?_};have i:o.isSome=(AC l n p).isSome:=by
      rcases j with⟨d,f⟩ | ⟨_,_,d,f,_⟩<;>rw[d,f]<;>rfl
     rw[i];exact q _ H Ah.refl r bh
  ·cases e
 exact dN u h
def xt(f:X.A.units+2<cLine)(e:DE X c ga a fa)(d:DE X c gb b fb)(h:autoParam (behindInMarks .In b=false) uR):DE X c g (.Compare a [.In] [b] pos) (f2 S (Dy false) fa fb):=
 (nT (pM f e d) h).imp λY H Q q=>j5 q
end
def AV(k:List Al)(v:D)(ks vs:List D):List D×List D:=
 if (AC k ks vs).isSome=true then (ks,List.zipWith (λd u=>if AN d=some k then v else u) ks vs) else (ks++[AD k],vs++[v])
section
variable{K:FG}{A:Addr->Prop}{H:Hp}
theorem j6(f:Is K A H d v):∀{kk:List (List Al)} {b:List D} {us:List V},kk.length=us.length->aa K A H b us->
 ∃a,aa K A H (List.zipWith (λx u=>if AN x=some k then d else u) (kk.map AD) b) a/\kk.length=a.length/\(kk.zip us).map (λc=>if c.1=k then (c.1,v) else c)=kk.zip a
 | [],b,us,c,h=>{[],by simpa using aa.nil.mpr rfl,rfl,rfl}
 | x::kk,b,us,c,h=>by
   cases b with
   | nil=>rw[aa.nil.mp h] at c;cases c
   | cons e b=>
     obtain⟨u,r,i,j,g⟩:=aa.cons.mp h;subst i;obtain⟨a,g1,g2,g3⟩:=j6 f (kk:=kk) (by simpa using c) g;by_cases z:x=k
     ·refine{v::a,?_,by simp[g2],?_}
      ·show aa K A H ((if AN (AD x)=some k then d else e)::_) _
       rw[cY,if_pos (by rw[z])];exact aa.cons.mpr ⟨v,a,rfl,f,g1⟩
      ·show (if x=k then (x,v) else (x,u))::_=(x,v)::kk.zip a
       rw[if_pos z,<-g3];rfl
     ·refine{u::a,?_,by simp[g2],?_}
      ·show aa K A H ((if AN (AD x)=some k then d else e)::_) _
       rw[cY,if_neg (λq=>z (Option.some.inj q))];exact aa.cons.mpr ⟨u,a,rfl,j,g1⟩
      ·show (if x=k then (x,v) else (x,u))::_=(x,u)::kk.zip a
       rw[if_neg z,<-g3];rfl
def gE{k:List Al}{d:D}{v:V}(g:Is K A H d v){c:List (List Al)}{f:List D}{us:List V}(e:c.length=us.length)(h:aa K A H f us) :
 ∃(b:List (List Al)) (a:List V),(AV k d (c.map AD) f).1=b.map AD/\aa K A H (AV k d (c.map AD) f).2 a/\b.length=a.length/\Bp (c.zip us) k v=b.zip a:=by
 have i:=gC k e h;delta AV Bp;rw[dG];rcases i with⟨d,b⟩ | ⟨d',v',d,b,_⟩
 ·rw[d,b]
  refine{c++[k],us++[v],?_,?_,?_,?_}
  ·simp
  ·simpa using h.append (aa.one g)
  ·simp[e]
  ·simp[List.zip_append e]
 ·rw[d,b]
  obtain⟨a,g1,g2,g3⟩:=j6 (k:=k) g e h;exact⟨c,a,rfl,g1,g2,g3⟩
end
theorem j7(c:d.imm=true):∀{b a:List D},D.immL a=true->D.immL (List.zipWith (λx u=>if AN x=some k then d else u) b a)=true
 | [],a,_=>by simp[D.immL]
 | x::b,[],_=>by simp[D.immL]
 | x::b,v::a,h=>by
   have e:v.imm=true/\D.immL a=true:=by simpa [D.immL] using h
   show (D.imm (if AN x=some k then d else v)&&D.immL _)=true;rw[j7 c e.2];by_cases z:AN x=some k
   ·rw[if_pos z,c];rfl
   ·rw[if_neg z,e.1];rfl
def e7(a:d.imm=true)(h:D.immL b=true):D.immL (AV k d ks b).2=true:=by
 delta AV;split
 ·exact j7 a h
 ·exact bI h (by simp[D.immL,a])
section
variable{X:Cx}{S:Type}{W:Wd S}{c:Dx W}{g ga gb:Gr}{a b:Expr}{fk fv:Fn S}{i:Nat}
def D7(Z:Ae)(i:Nat):Option (List D×List D):=match Z[i]? with
 | some (.own (.dct (.non::ks) vs))=>if D.immL vs=true then some (ks,vs) else none
 | _=>none
def qM(h:D7 Z i=some (e,d)):Z[i]?=some (.own (.dct (.non::e) d))/\D.immL d=true:=by
 delta D7 at h;split at h
 ·split at h
  ·cases h;exact{by assumption,by assumption}
  ·cases h
 ·cases h
def JF(S:Type)(i:Nat)(fk fv:Fn S):Ay S:=λZ st=>(fv Z st).bind λv st1=>match D7 Z i with
 | some (ks,vs)=>(fk Z st1).bind λk st2=>match AN k with
   | some kk=>if v.imm=true/\ks.length<sizeLine then .ok (.nx (Z.set i (.own (.dct (.non::(AV kk v ks vs).1) (AV kk v ks vs).2)))) st2 else .bad
   | none=>.bad
 | none=>.bad
def xu{x:Str}{k value:Expr}{p1 p2 pos:Pos}(hu:X.A.units+2<cLine)(hx:PE X (.Name x p1) (B1 i))(hk:DE X c ga k fk)(hv:DE X c gb value fv)(hs:autoParam (swapsWith value (some (.Subscript (.Name x p1) k p2)) pos.line X.env=pure false) uR) :
 DS X c (.Assign [.Subscript (.Name x p1) k p2] value pos) (JF S i fk fv):=
 (gk hu hx hk hv hs).imp λD Y H q=>by
  refine aU (cr (g:=gb) (k:=λv Z st1=>match D7 Z i with
   | some (ks,vs)=>(fk Z st1).bind λk st2=>match AN k with
     | some kk=>if v.imm=true/\ks.length<sizeLine then .ok (.nx (Z.set i (.own (.dct (.non::(AV kk v ks vs).1) (AV kk v ks vs).2)))) st2 else .bad
     | none=>.bad
   | none=>.bad) q) λv H1 hh=>?_
  obtain⟨Z,d,st0,st1,R,ok,R1,ok1,e1,z,w⟩:=hh;cases hd:D7 Z i with
  | none=>simp only[hd] at w;exact(show False from w).elim
  | some kv=>
    obtain⟨ks,vs⟩:=kv;simp only[hd] at w;obtain⟨ho,im⟩:=qM hd;obtain⟨ad,ea,nn,f0,us0,_⟩:=R1.slot i _ ho;refine{.ref ad,bb ea,Z,st1,R1,ok1,ak (ae.mp w) (λdk st2 q2 vk H2 e2 ok2 zk=>?_) λx st2 q2 H2 e2 ok2=>q2 H2 ((e1.trans e2).f0 R) ok2};cases hkk:AN dk with
    | none=>simp only[hkk] at q2;exact(show False from q2).elim
    | some kk=>
      simp only[hkk] at q2;by_cases hc:d.imm=true/\ks.length<sizeLine
      ·rw[if_pos hc] at q2
       have R2:=R1.ext ok1 e2;obtain⟨ad',ea',nn',f0',us,iu,hq⟩:=R2.slot i _ ho;have:ad'=ad:=by
        have:=(bb ea').symm.trans (bb ea);cases this;rfl
       subst this;obtain⟨bk,ebk,hbk,_⟩:=dW hkk (show Is c.K 'w' H2 dk vk from zk.toR);have zv:Is c.K (Av c Y Z) H2 d v:=Is.ofImm hc.1 (z.toR.ext e2 ok1);rcases hq with⟨k1,x1,_,_⟩ | ⟨k2,x2,el,eH⟩
       ·cases k1 with
        | nil=>cases x1
        | cons y r=>
          have:L2.D.non=Ct y:=(List.cons.inj x1).1;cases y<;>cases this
       ·have e3:ks=k2.map AD:=(List.cons.inj x2).2
        subst e3;obtain⟨kk',us',g1,g2,g3,g4⟩:=gE (k:=kk) zv el iu;have hz:(k2.zip us).length<sizeLine:=by
         rw[List.length_zip,<-el,Nat.min_self];have:=hc.2;rw[Ai] at this;exact this
        have dp:=EO.t (v:=v) eH hbk hz;rw[g4] at dp;subst ebk;refine{ad',_,rfl,dp,?_};obtain⟨R3,F3⟩:=R2.wr (d':=.dct (.non::(AV kk d (k2.map AD) vs).1) (AV kk d (k2.map AD) vs).2) (o:=.dT (kk'.zip us')) ho (bb ea') {(λu z=>by cases z),(λob u z=>by cases z)}
         λkt=>{us',g2.mono kt,.inr {kk',by rw[g1],g3,aw}}
        exact q2 Y _ ((e1.trans e2).frm.trans F3) (bY ok2 nn.1 eH) R3
      ·rw[if_neg hc] at q2;exact(show False from q2).elim
end
section
variable{X:Cx}{S:Type}{W:Wd S}{c:Dx W}{g ga gb:Gr}
def Hv(K:FG):R2:=λx y H Q=>∃a b ys,x=.ref a/\y=.ref b/\AS K H a []/\AS K H b ys/\Q (.ref b) H
def qN:A8 X (binaryOp .Add) (Hv X.K):=by
 intro a s Y H x y v u Q I d f h;obtain⟨a,b,i,rfl,rfl,e,j,q⟩:=h;cases d;cases f;obtain⟨i,l,r,_⟩:=I.tuple e;obtain⟨f,d,u,_⟩:=I.tuple j;cases l;obtain⟨⟨e,s,d,p⟩,m,o,n,l⟩:=id r;obtain⟨⟨h,i,data2,j⟩,d,e,r,h⟩:=id u;simp only at o l e h;subst o l e h;exact concat_meets {_,m,rfl} {_,d,rfl} noFill_tuple_add seq_tuple_add PySem.F.slot_tuple_add PySem.F.entry_tuple_add (PySem.F.args_tuple_add_2 _ _) (tuple_addW0 a b _ f.toArray n r s i p j rfl) {m,d,{.ref b,H,I,rfl,q}}
def Iq:D->D->Option D
 | .tup [],.tup m=>if D.immL m=true then some (.tup m) else none
 | _,_=>none
open H in
def qO{K:FG}:Bx c (Hv K) Iq:=by
 intro h f e b H a d Q o l f e q;delta Iq at e;split at e
 ·rename_i m
  split at e
  ·rename_i im
   cases e;obtain⟨a,b,i,d,n⟩:=Is.tup_iff.mp l;obtain⟨b,us,h,j,p⟩:=Is.tup_iff.mp f;rw[aa.nil.mp n] at d;refine{a,b,us,i,h,.of d,.of j,?_};rw[<-h];exact q _ H Ah.refl o (Is.ofImm (by show D.immL m=true;exact im) f)
  ·cases e
 ·cases e
def JG(S:Type)(i:Nat)(fk fv:Fn S):Ay S:=λZ st=>(fv Z st).bind λv st1=>match Bc Z i with
 | some l=>(fk Z st1).bind λk st2=>match k with
   | .int j=>match CQ l.length j with
     | some n=>if v.imm=true then .ok (.nx (Z.set i (.own (.lst (l.set n v))))) st2 else .bad
     | none=>.bad
   | _=>.bad
 | none=>.bad
def xv{x:Str}{i:Nat}(a:PE X (.Name x p1) (B1 i))(d:DE X c ga k fk)(e:DE X c gb value fv)(h:∀{a b:TE},PE X k a->PE X value b->PS X (.Assign [.Subscript (.Name x p1) k p2] value pos) (F8 b (Jo (B1 i) a Ju))):DS X c (.Assign [.Subscript (.Name x p1) k p2] value pos) (JG S i fk fv):=
 (h d e).imp λD Y H q=>by
  refine aU (cr (g:=gb) (k:=λv Z a=>match Bc Z i with
   | some l=>(fk Z a).bind λk b=>match k with
     | .int j=>match CQ l.length j with
       | some n=>if v.imm=true then .ok (.nx (Z.set i (.own (.lst (l.set n v))))) b else .bad
       | none=>.bad
     | _=>.bad
   | none=>.bad) q) λv H1 h=>?_
  obtain⟨Z,d,e,a,R,m,u,f,A,z,w⟩:=h;cases p:Bc Z i with
  | none=>simp only[p] at w;exact(show False from w).elim
  | some l=>
    simp only[p] at w;obtain⟨s,q,y,I,G,B⟩:=u.lstAt p;refine{.ref s,y,Z,a,u,f,ak (ae.mp w) (λm b e a H2 h i C=>?_) λx b e H2 h i=>e H2 ((A.trans h).f0 R) i};cases m with
    | int j=>
      have E:a=.int j:=Is.int_iff.mp (show Is c.K 'w' H2 (.int j) a from C.toR);cases r:CQ l.length j with
      | none=>simp only[r] at e;exact(show False from e).elim
      | some n=>
        simp only[r] at e;by_cases x:d.imm=true
        ·rw[if_pos x] at e
         have R2:=u.ext f h;have m:=h s _ I B;have C:aa c.K (Av c Y Z) H2 l q:=G.mono (h.keepT f λb a=>⟨a.1,a⟩);have G:Is c.K (Av c Y Z) H2 d v:=Is.ofImm x (z.toR.ext h f);refine{s,q,j,n,rfl,E,m,by rw[<-C.length];exact r,?_};obtain⟨a,f⟩:=R2.wr (d':=.lst (l.set n d)) (o:=.lst (q.set n v)) (eZ p) y {(λu z=>by cases z),(λb u z=>by cases z)} λb=>{_,aw,(C.set n G).mono b}
         exact e Y _ ((A.trans h).frm.trans f) (bY i B m) a
        ·rw[if_neg x] at e;exact(show False from e).elim
    | _=>exact(show False from e).elim
end
end L2
namespace PySem
structure Dg(prog:Program)(w:World)(it l:Addr)(xs:List Value)(P:Nat->Heap->Prop):Prop where
 keep:∀k h h',P k h->(∀b o,b=it\/b=l->h.get? b=some o->h'.get? b=some o)->P k h'
 item:∀(A:Around) (E:Value->Shared->Prop) (s:Shared) (k:Nat) (x:Value) (Q:Value->Shared->Prop),P k s.heap->xs[k]?=some x->
  (∀h',P (k+1) h'->Heap.SameBut it s.heap h'->Q x { s with heap:=h' })->wpAny 'r' A (Builtin.SmallTypes.nextOf (.ref it)) Q E s
 stop:∀(A:Around) (E:Value->Shared->Prop) (s:Shared) (k:Nat) (Q:Value->Shared->Prop),A.handled=none->P k s.heap->xs[k]?=none->
  (∀h' e,Heap.ExtBut it s.heap h'->(∃o,h'.get? e=some o/\o.cls=.type "StopIteration")->E (.ref e) { s with heap:=h' })->wpAny 'r' A (Builtin.SmallTypes.nextOf (.ref it)) Q E s
section
variable{prog:Program}{w:World}{it l:Addr}{xs:List Value}
def Dg.tup(d:it≠l):Dg prog w it l xs (λk h=>h.IsTupleIter it l k/\h.IsTuple l xs.toArray) where
 keep:=λk h g ⟨a,b⟩ q=>{a.at λo e=>q it o (.inl rfl) e,by
  obtain⟨o,f,r⟩:=b;exact{o,q l o (.inr rfl) f,r}}
 item:=λA E s k x Q ⟨a,b⟩ c h=>jM a b (by simpa using c) λg i e=>h g {i,by
  obtain⟨o,f,r⟩:=b;exact{o,e.extBut l o d.symm f,r}} e
 stop:=λA E s k Q e ⟨a,b⟩ c d=>jN e a b (by simpa using c) d
def Dg.lst(d:it≠l):Dg prog w it l xs (λk h=>h.IsListIter it l k/\h.IsList l xs.toArray) where
 keep:=λk h f ⟨a,b⟩ q=>{a.at λo e=>q it o (.inl rfl) e,b.at λo e=>q l o (.inr rfl) e}
 item:=λA E s k x Q ⟨a,b⟩ c g=>wpAny_nextOf_list_item a b (by simpa using c) λf h e=>g f {h,b.extBut e.extBut d.symm} e
 stop:=λA E s k Q e ⟨a,b⟩ c d=>wpAny_nextOf_list_end e a b (by simpa using c) d
end
section
variable{prog:Program}{w:World}{A:Around}{E:Value->Shared->Prop}{s:Shared}{z TI TO i1 i2 l1 l2:Addr}{xs ys:List Value}{P1 P2:Nat->Heap->Prop}{k:Nat}{x y a b:Value}
structure ZAp(z TI TO i1 i2 l1 l2:Addr):Prop where
 zTI:z≠TI
 zTO:z≠TO
 z1:z≠i1
 z2:z≠i2
 io:TI≠TO
 I1:TI≠i1
 I2:TI≠i2
 O1:TO≠i1
 O2:TO≠i2
 ii:i1≠i2
 lz1:l1≠z
 lo1:l1≠TO
 li1:l1≠i2
 lz2:l2≠z
 lo2:l2≠TO
 li2:l2≠i1
def Dg.ext(W:Dg prog w it l xs P){k:Nat}(p:P k h)(e:Heap.ExtBut c h h')(f:it≠c)(d:l≠c):P k h':=
 W.keep k h h' p λb o c q=>by
  rcases c with r | r
  ·subst r;exact e _ o f q
  ·subst r;exact e _ o d q
def qP{Q:Value->Shared->Prop}(m:Dg prog w i1 l1 xs P1)(l:Dg prog w i2 l2 ys P2)(D:ZAp z TI TO i1 i2 l1 l2)(e:IsZip s.heap z TI TO .none)(f:IsPair s.heap TI (.ref i1) (.ref i2))(g:IsPair s.heap TO a b)(j:P1 k s.heap)(p:P2 k s.heap)(i:xs[k]?=some x)(n:ys[k]?=some y)(I:∀d,IsZip d z TI TO (rawInt s.heap.objs.size)->IsPair d TO x y->P1 (k+1) d->P2 (k+1) d->IsPair d s.heap.objs.size x y->d.objs.size=s.heap.objs.size+1->
  (∀c o,c∉[z,TO,i1,i2]->s.heap.get? c=some o->d.get? c=some o)->Q (.ref s.heap.objs.size) { s with heap:=d }) :
 wpAny 'r' A (Builtin.«zip.__next__» {[.ref z],[]}) (λfin s'=>∃v,fin=.done (.ret v)/\Q v s') E s:=by
 show wpAny 'r' A (field (.ref z) 2 >>= λ_=>_) _ _ s;refine Ac (Ca e rfl (x:=.bool false) rfl ?_);show wpAny 'r' A (field (.ref z) 3 >>= λ_=>_) _ _ s;refine Ac (Ca e rfl (x:=.ref TI) rfl (Ac (Ez f rfl ?_)));show wpAny 'r' A (Builtin.SmallTypes.ownedTupleIsFree (.ref z) >>= λ_=>_) _ _ s;refine Ac ?_;delta Builtin.SmallTypes.ownedTupleIsFree;refine Ac (Ca e rfl (x:=.none) rfl (Ao ?_));rw[if_pos rfl];refine Ac (aZ (Ac (Ca e rfl (x:=.ref TO) rfl (Ac (Ey e 'd' λg1 q h=>?_)))));have q:IsZip g1 z TI TO .ellipsis:=q;have h:Heap.SameBut z s.heap g1:=h;refine Ac ?_;simp only[List.zipIdx_cons,List.zipIdx_nil,List.forIn_cons,List.forIn_nil];refine Ac (Ac (wpAny_onRaise ?_));show wpAny 'r' _ (Builtin.SmallTypes.nextOf (.ref i1) >>= λ_=>_) _ _ _;refine Ac (m.item _ _ _ k x _ (m.ext j h.extBut D.z1.symm D.lz1) i λg2 r f=>Ao ?_);have f:Heap.SameBut i1 g1 g2:=f;have e:IsPair g2 TO a b:=f.extBut _ _ D.O1 (h.extBut _ _ D.zTO.symm g);refine Ac (Ez e rfl (Ac (wpAny_updateSeq_pair e λg3 d j=>?_)));have d:IsPair g3 TO x b:=d;have j:Heap.SameBut TO g2 g3:=j;refine Ac (wpAny_letGo (Ao (Ac (Ac (wpAny_onRaise ?_)))));show wpAny 'r' _ (Builtin.SmallTypes.nextOf (.ref i2) >>= λ_=>_) _ _ _;have e:P2 k g3:=l.ext (l.ext (l.ext p h.extBut D.z2.symm D.lz2) f.extBut D.ii.symm D.li2) j.extBut D.O2.symm D.lo2;refine Ac (l.item _ _ _ k y _ e n λg4 u i=>Ao ?_);have i:Heap.SameBut i2 g3 g4:=i;have e:IsPair g4 TO x b:=i.extBut _ _ D.O2 d;refine Ac (Ez e rfl (Ac (wpAny_updateSeq_pair e λd p g=>?_)));have p:IsPair d TO x y:=p;have g:Heap.SameBut TO g4 d:=g;refine Ac (wpAny_letGo (Ao (Ao (Ac (Ez p rfl (Ac (wpAny_newTuple ?_)))))));have C:d.objs.size=s.heap.objs.size:=by rw[g.1,i.1,j.1,f.1,h.1]
 have B:∀c o,c∉[z,TO,i1,i2]->s.heap.get? c=some o->d.get? c=some o:=λc o n e=>by
  simp only[AE,DJ,or_false,not_or] at n;exact g.extBut _ _ n.2.1 (i.extBut _ _ n.2.2.2 (j.extBut _ _ n.2.1 (f.extBut _ _ n.2.2.1 (h.extBut _ _ n.1 e))))
 have h:IsZip d z TI TO .ellipsis:=g.extBut _ _ D.zTO (i.extBut _ _ D.z2 (j.extBut _ _ D.zTO (f.extBut _ _ D.z1 q)));have M:P1 (k+1) d:=m.ext (m.ext (m.ext r j.extBut D.O1.symm D.lo1) i.extBut D.ii D.li1) g.extBut D.O1.symm D.lo1;have G:P2 (k+1) d:=l.ext u g.extBut D.O2.symm D.lo2;show wpAny 'r' A (Builtin.SmallTypes.ownedTupleHandOut (.ref z) (.ref d.objs.size) >>= λ_=>_) _ _ _;refine Ac ?_;delta Builtin.SmallTypes.ownedTupleHandOut;have f:IsZip (d.push { cls:=.type "tuple",data:=.seq #[x,y] }) z TI TO .ellipsis:=AJ _ h;have u:z<d.objs.size:=Heap.lt_size h;have J:(d.push { cls:=.type "tuple",data:=.seq #[x,y] }).get? d.objs.size=some { cls:=.type "tuple",data:=.seq #[x,y] }:=Be _ rfl;refine Ac (Ey f 'd' λj q g=>?_);have q:IsZip j z TI TO (rawInt d.objs.size):=q;have g:Heap.SameBut z (d.push { cls:=.type "tuple",data:=.seq #[x,y] }) j:=g;refine Ey q 'd' λf i h=>Ao {_,rfl,?_}
 have i:IsZip f z TI TO (rawInt d.objs.size):=i;have h:Heap.SameBut z j f:=h;have q:∀c o,c≠z->d.get? c=some o->f.get? c=some o:=λc o n e=>h.extBut _ _ n (g.extBut _ _ n (AJ _ e))
 have v:Heap.ExtBut z d f:=λc o n e=>q c o n e
 have j:IsPair f d.objs.size x y:=h.extBut _ _ (Nat.ne_of_gt u) (g.extBut _ _ (Nat.ne_of_gt u) J);have r:f.objs.size=d.objs.size+1:=by rw[h.1,g.1,DZ]
 show Q (.ref d.objs.size) _;rw[C] at i j r ⊢;exact I f i (q _ _ D.zTO.symm p) (m.ext M v D.z1.symm D.lz1) (l.ext G v D.z2.symm D.lz2) j r λc o n e=>q c o (λh=>n (by simp[h])) (B c o n e)
def qQ(O:A.handled=none)(B:Dg prog w i1 l1 xs P1)(p:Dg prog w i2 l2 ys P2)(D:ZAp z TI TO i1 i2 l1 l2)(d:IsZip s.heap z TI TO .none)(f:IsPair s.heap TI (.ref i1) (.ref i2))(C:IsPair s.heap TO a b)(m:P1 k s.heap)(P:P2 k s.heap)(l:xs[k]?=none\/ys[k]?=none)(J:∀g e,(∀c o,c∉[z,TO,i1,i2]->s.heap.get? c=some o->g.get? c=some o)->(∃o,g.get? e=some o/\o.cls=.type "StopIteration")->E (.ref e) { s with heap:=g }) :
 wpAny 'r' A (Builtin.«zip.__next__» {[.ref z],[]}) Q E s:=by
 have N:∀{h:Heap} {e:Addr} {i:Value} {o:Obj},IsZip h z TI TO i->h.get? e=some o->o.cls=.type "StopIteration"->e≠z:=λ{h e i o} I g n j=>by
  subst j;rw[I] at g;cases g;simp at n
 show wpAny 'r' A (field (.ref z) 2 >>= λ_=>_) _ _ s;refine Ac (Ca d rfl (x:=.bool false) rfl ?_);show wpAny 'r' A (field (.ref z) 3 >>= λ_=>_) _ _ s;refine Ac (Ca d rfl (x:=.ref TI) rfl (Ac (Ez f rfl ?_)));show wpAny 'r' A (Builtin.SmallTypes.ownedTupleIsFree (.ref z) >>= λ_=>_) _ _ s;refine Ac ?_;delta Builtin.SmallTypes.ownedTupleIsFree;refine Ac (Ca d rfl (x:=.none) rfl (Ao ?_));rw[if_pos rfl];refine Ac (aZ (Ac (Ca d rfl (x:=.ref TO) rfl (Ac (Ey d 'd' λg1 r g=>?_)))));have r:IsZip g1 z TI TO .ellipsis:=r;have g:Heap.SameBut z s.heap g1:=g;refine Ac ?_;simp only[List.zipIdx_cons,List.zipIdx_nil,List.forIn_cons,List.forIn_nil];refine Ac (Ac (wpAny_onRaise ?_));show wpAny 'r' _ (Builtin.SmallTypes.nextOf (.ref i1) >>= λ_=>_) _ _ _;have i:P1 k g1:=B.ext m g.extBut D.z1.symm D.lz1;cases v:xs[k]? with
 | none=>
   refine Ac (B.stop _ _ _ k _ O i v λg2 e d G=>?_);obtain⟨u,j,m⟩:=G;have M:IsZip g2 z TI TO .ellipsis:=d _ _ D.z1 r;refine Ey M 'd' λg3 _ f=>J g3 e (λc o n q=>?_) {u,f.extBut _ _ (N M j m) j,m}
   simp only[AE,DJ,or_false,not_or] at n;exact f.extBut _ _ n.1 (d _ _ n.2.2.1 (g.extBut _ _ n.1 q))
 | some x=>
   have M:ys[k]?=none:=by
    rcases l with h | h
    ·rw[v] at h;cases h
    ·exact h
   refine Ac (B.item _ _ _ k x _ i v λg2 I d=>Ao ?_);have d:Heap.SameBut i1 g1 g2:=d;have h:IsPair g2 TO a b:=d.extBut _ _ D.O1 (g.extBut _ _ D.zTO.symm C);refine Ac (Ez h rfl (Ac (wpAny_updateSeq_pair h λg3 i f=>?_)));have f:Heap.SameBut TO g2 g3:=f;refine Ac (wpAny_letGo (Ao (Ac (Ac (wpAny_onRaise ?_)))));show wpAny 'r' _ (Builtin.SmallTypes.nextOf (.ref i2) >>= λ_=>_) _ _ _;have h:P2 k g3:=p.ext (p.ext (p.ext P g.extBut D.z2.symm D.lz2) d.extBut D.ii.symm D.li2) f.extBut D.O2.symm D.lo2;refine Ac (p.stop _ _ _ k _ O h M λg4 e l G=>?_);obtain⟨u,j,m⟩:=G;have i:IsZip g4 z TI TO .ellipsis:=l _ _ D.z2 (f.extBut _ _ D.zTO (d.extBut _ _ D.z1 r));refine Ey i 'd' λp _ h=>J p e (λc o n q=>?_) {u,h.extBut _ _ (N i j m) j,m}
   simp only[AE,DJ,or_false,not_or] at n;exact h.extBut _ _ n.1 (l _ _ n.2.2.2 (f.extBut _ _ n.2.1 (d.extBut _ _ n.2.2.1 (g.extBut _ _ n.1 q))))
end
instance zO(nm:String)(l:Addr):Obj:={ cls:=.type nm,data:=.fields #[.ref l,.int 0 0] }
instance zA(nm:String)(h:Heap)(l1 l2:Addr):Heap:=(h.push (zO nm l1)).push (zO nm l2)
instance zB(nm:String)(h:Heap)(l1 l2:Addr):Heap:=((zA nm h l1 l2).push { cls:=.type "tuple",data:=.seq #[.ref h.objs.size,.ref (h.push (zO nm l1)).objs.size] }).push { cls:=.type "tuple",data:=.seq #[.none,.none] }
instance zC(nm:String)(h:Heap)(l1 l2:Addr):Heap:=(zB nm h l1 l2).push { cls:=.type "zip",data:=.fields #[.none,.bool false,.bool false,.ref (zA nm h l1 l2).objs.size,.ref ((zA nm h l1 l2).push { cls:=.type "tuple",data:=.seq #[.ref h.objs.size,.ref (h.push (zO nm l1)).objs.size] }).objs.size] }
def qR(a b:Addr)(p l:Array Value) :
 Meets (Builtin.«zip.__new__» {[.type "zip",.ref a,.ref b],[]}) (λ_ R s=>s.heap.IsTuple a p/\s.heap.IsTuple b l/\
  R (.ok (.ret (.ref (zB "tuple_iterator" s.heap a b).objs.size))) { s with heap:=zC "tuple_iterator" s.heap a b }):=
 .of_wp λprog w A R s h=>by
  obtain⟨j,g,d,n,m⟩:=s;obtain⟨i,e,h⟩:=h;have c:=sub_zip;have f:Heap.IsTuple (Shared.heap ⟨j,g,d,n,m⟩) a p:=i;have c:Heap.IsTuple (Shared.heap ⟨j.push { cls:=.type "tuple_iterator",data:=.fields #[.ref a,.int 0 0] },g,d,n,m⟩) b l:=by
   obtain⟨o,a,r⟩:=e;exact{o,AJ _ a,r}
  wp_walk using wpAny_pyIter_tuple f,wpAny_pyIter_tuple c
  exact{_,rfl,h}
def e8(a:String)(h:Heap)(b c:Addr):(h.push (zO a b)).objs.size=h.objs.size+1/\(zA a h b c).objs.size=h.objs.size+2/\(zB a h b c).objs.size=h.objs.size+4:=by
 refine{DZ ..,?_,?_}
 ·delta zA;rw[DZ,DZ]
 ·delta zB zA;rw[DZ,DZ,DZ,DZ]
def fe(a:String)(h:Heap)(b d:Addr):IsZip (zC a h b d) (h.objs.size+4) (h.objs.size+2) (h.objs.size+3) .none/\IsPair (zC a h b d) (h.objs.size+2) (.ref h.objs.size) (.ref (h.objs.size+1))/\
 IsPair (zC a h b d) (h.objs.size+3) .none .none/\(zC a h b d).get? h.objs.size=some (zO a b)/\(zC a h b d).get? (h.objs.size+1)=some (zO a d)/\∀c o,h.get? c=some o->(zC a h b d).get? c=some o:=by
 obtain⟨g,e,i⟩:=e8 a h b d;have f:((zA a h b d).push { cls:=.type "tuple",data:=.seq #[.ref h.objs.size,.ref (h.push (zO a b)).objs.size] }).objs.size=h.objs.size+3:=by rw[DZ,e]
 have u:∀{c:Addr} {o:Obj},(zB a h b d).get? c=some o->(zC a h b d).get? c=some o:=λ{c o} q=>AJ _ q
 have v:∀{c:Addr} {o:Obj},(zA a h b d).get? c=some o->(zC a h b d).get? c=some o:=λ{c o} q=>u (AJ _ (AJ _ q))
 refine{?_,?_,?_,v (AJ _ (Be _ rfl)),?_,λc o q=>v (AJ _ (AJ _ q))}
 ·have q:(zC a h b d).get? (zB a h b d).objs.size=some _:=Be _ rfl
  rw[i,f,e] at q;exact q
 ·have q:(zC a h b d).get? (zA a h b d).objs.size=some _:=u (AJ _ (Be _ rfl))
  rw[e,g] at q;exact q
 ·have q:(zC a h b d).get? ((zA a h b d).push { cls:=.type "tuple",data:=.seq #[.ref h.objs.size,.ref (h.push (zO a b)).objs.size] }).objs.size=some _:=u (Be _ rfl)
  rw[f] at q;exact q
 ·have q:(zA a h b d).get? (h.push (zO a b)).objs.size=some (zO a d):=Be _ rfl
  rw[g] at q;exact v q
def qS(c:s.heap.IsTuple l1 e)(a:s.heap.IsTuple l2 d)(h:Q (.ref (s.heap.objs.size+4)) { s with heap:=zC "tuple_iterator" s.heap l1 l2 }):wpAny 'r' A (call (.type "zip") [.ref l1,.ref l2]) Q E s:=by
 refine callType_new F.called_zip 'z' (F.typeCall_zip_2 _ _) (F.newCall_zip_2 _ _) (λb=>F.args_object_init_3 b _ _) F.entry_zip_new (qR l1 l2 e d) {c,a,?_};obtain⟨q,_⟩:=fe "tuple_iterator" s.heap l1 l2;show _/\_;rw[(e8 "tuple_iterator" s.heap l1 l2).2.2];exact{{_,q,rfl},h}
def qT(c:s.heap.IsList l1 e)(a:s.heap.IsList l2 d)(h:Q (.ref (s.heap.objs.size+4)) { s with heap:=zC "list_iterator" s.heap l1 l2 }):wpAny 'r' A (call (.type "zip") [.ref l1,.ref l2]) Q E s:=by
 refine callType_new F.called_zip 'z' (F.typeCall_zip_2 _ _) (F.newCall_zip_2 _ _) (λb=>F.args_object_init_3 b _ _) F.entry_zip_new (meets_zip_new l1 l2 e d) {c,a,?_};obtain⟨q,_⟩:=fe "list_iterator" s.heap l1 l2;show _/\_;refine{{{ cls:=.type "zip",data:=.fields #[.none,.bool false,.bool false,.ref (s.heap.objs.size+2),.ref (s.heap.objs.size+3)] },?_,rfl},?_}
 ·rw[show (zipH4 s.heap l1 l2).objs.size=s.heap.objs.size+4 from (e8 "list_iterator" s.heap l1 l2).2.2];exact q
 ·rw[show (zipH4 s.heap l1 l2).objs.size=s.heap.objs.size+4 from (e8 "list_iterator" s.heap l1 l2).2.2];exact h
end PySem
namespace L2
instance Izp(Sq:Hp->List V->List V->Prop):It:=
 {λi H=>∃xs ys x y,Sq H xs ys/\xs[i]?=some x/\ys[i]?=some y,λi H v H'=>∃p x y,H p=none/\v=.ref p/\H'=Ag H p (.tup [x,y])/\∀xs ys,Sq H xs ys->xs[i]?=some x/\ys[i]?=some y,λi H=>∃xs ys,Sq H xs ys/\(xs.length<=i\/ys.length<=i)}
structure ZW(P:Program)(w:World)(K:FG)(l1 l2 i1 i2:Addr)(Sq:Hp->List V->List V->Prop)(T1 T2:Nat->Heap->Prop):Prop where
 obj:∀k h,(T1 k h->∃o,h.get? i1=some o/\∀v,o.data≠.cell v)/\(T2 k h->∃o,h.get? i2=some o/\∀v,o.data≠.cell v)
 keep:∀k h h',(T1 k h->(∀o,h.get? i1=some o->h'.get? i1=some o)->T1 k h')/\(T2 k h->(∀o,h.get? i2=some o->h'.get? i2=some o)->T2 k h')
 there:∀H xs ys,Sq H xs ys->H l1≠none/\H l2≠none
 vals:∀(X:Cx),X.K=K->∀A5 Y H s xs ys,Ab X A5 Y H s->Sq H xs ys->i1≠l1->i2≠l2->∃us vs,Aq xs us/\Aq ys vs/\(∀xs' ys',Sq H xs' ys'->xs'=xs/\ys'=ys)/\∃P1 P2:Nat->Heap->Prop,Dg P w i1 l1 us P1/\Dg P w i2 l2 vs P2/\
  (∀k,T1 k s.heap->P1 k s.heap)/\(∀k,T2 k s.heap->P2 k s.heap)/\∀k h,(P1 k h->T1 k h)/\(P2 k h->T2 k h)
def nd5(h:[a,b,c,d,e].Nodup):(a≠b/\a≠c/\a≠d/\a≠e)/\(b≠c/\b≠d/\b≠e)/\(c≠d/\c≠e)/\d≠e:=by
 simpa only[Fp,AE,DJ,or_false,not_or,List.nodup_nil,and_true,not_false_eq_true] using h
def qU(h:x∈[a,b,c,d,e]):x=a\/x=b\/x=c\/x=d\/x=e:=by
 simpa only[AE,DJ,or_false] using h
def nm5(h:x∉[a,b,c,d,e]):x≠a/\x∉[a,c,d,e]:=by
 simp only[AE,DJ,or_false,not_or] at h ⊢;exact⟨h.1,h.1,h.2.2⟩
def nm4(g:x≠a)(f:x≠b)(e:x≠c)(h:x≠d):x∉[a,b,c,d]:=by
 simp only[AE,DJ,or_false,not_or];exact⟨g,f,e,h⟩
def qV(h:x∈[a,c,d,e]):x∈[a,b,c,d,e]:=by
 simp only[AE,DJ,or_false] at h ⊢;rcases h with r | r | r | r
 ·exact .inl r
 ·exact .inr (.inr (.inl r))
 ·exact .inr (.inr (.inr (.inl r)))
 ·exact .inr (.inr (.inr (.inr r)))
section
variable{a b c d e:Addr}
def in1:a∈[a,b,c,d,e]:=.head _
def in2:b∈[a,b,c,d,e]:=.tail _ (.head _)
def in3:c∈[a,b,c,d,e]:=.tail _ (.tail _ (.head _))
def in4:d∈[a,b,c,d,e]:=.tail _ (.tail _ (.tail _ (.head _)))
def in5:e∈[a,b,c,d,e]:=.tail _ (.tail _ (.tail _ (.tail _ (.head _))))
def j8{P:Addr->Prop}(f:P a)(h:P b)(i:P c)(g:P d)(f:P e){x:Addr}(h:x∈[a,b,c,d,e]):P x:=by
 rcases qU h with rfl | rfl | rfl | rfl | rfl<;>assumption
def nf{u:Array Value}(v:Option Value)(e:Data.fields u=.cell v):False:=Data.noConfusion e
def ns{u:Array Value}{n:Nat}(v:Option Value)(e:Data.seq u n=.cell v):False:=Data.noConfusion e
def zap{h i:Addr}(f:[a,b,c,d,e].Nodup)(g:∀x∈[a,b,c,d,e],h≠x/\i≠x):ZAp a b c d e h i:=
 have f:=nd5 f
 {f.1.1,f.1.2.1,f.1.2.2.1,f.1.2.2.2,f.2.1.1,f.2.1.2.1,f.2.1.2.2,f.2.2.1.1,f.2.2.1.2,f.2.2.2,(g a in1).1,(g c in3).1,(g e in5).1,(g a in1).2,(g c in3).2,(g d in4).2}
end
open H in
def j9{P:Program}{w:World}{K:FG}{a:List Expr}{x1}{pos:Pos}{l1 l2 z TI TO A l:Addr}{c:Hp->List V->List V->Prop}{e f:Nat->Heap->Prop}(d:ZW P w K l1 l2 A l c e f)(nd:[z,TI,TO,A,l].Nodup):E2 P w K (.Tuple a x1 pos) (Izp c) [z,TI,TO,A,l] z (λi h=>IsZip h z TI TO .none/\IsPair h TI (.ref A) (.ref l)/\(∃a b,IsPair h TO a b)/\e i h/\f i h) where
 mem:=in1
 obj:=λi h r b f=>by
  obtain⟨g,n,⟨_,_,B⟩,G,M⟩:=r;exact j8 (P:=λb=>∃o,h.get? b=some o/\∀v,o.data≠.cell v) {_,g,nf} {_,n,ns} {_,B,ns} ((d.obj i h).1 G) ((d.obj i h).2 M) f
 keep:=λi h j r q=>by
  obtain⟨g,n,⟨a,b,B⟩,G,M⟩:=r;exact{q _ in1 _ g,q _ in2 _ n,{a,b,q _ in3 _ B},(d.keep i h j).1 G (q _ in4),(d.keep i h j).2 M (q _ in5)}
 item:=by
  intro X hP hw hK hc i A5 s Y H E I J r hg;subst hP hw;obtain⟨U,Q,x,y,R,C,hy⟩:=hg;obtain⟨g,n,⟨a,b,B⟩,G,M⟩:=r;obtain⟨n1,n2⟩:=d.there H U Q R;have O:∀c∈[z,TI,TO,A,l],l1≠c/\l2≠c:=λc f=>{λe=>n1 ((congrArg H e).trans (J c f).1),λe=>n2 ((congrArg H e).trans (J c f).1)}
  obtain⟨us,vs,ru,rv,inj,P1,P2,W1,W2,p1,p2,pt⟩:=d.vals X hK A5 Y H s U Q I R (O A in4).1.symm (O l in5).2.symm;obtain⟨u,m,rx⟩:=ru.get C;obtain⟨v,N,ry⟩:=rv.get hy;have D:=zap nd O;have W:s.TypeIs (.ref z) "zip":={_,g,rfl};delta pyNext;refine Ac (wpAny_attempt (wpAny_callSpecial?_slot (name:=Str.ofString "__next__") W F.slot_zip_next (DX F.slot_zip_next W F.entry_zip_next (qP W1 W2 D g n B (p1 i G) (p2 i M) m N λj a1 a2 a3 a4 a5 m Z=>Ao ?_) (F.args_zip_next_1 _))));refine{_,rfl,wpAny_letOwnedTupleGo_zip (s:={ s with heap:=j }) a1 λg2 zz m=>?_};have m:Heap.SameBut z j g2:=m;have N:∀{c:Addr} {o:Obj},s.heap.get? c=some o->c≠s.heap.objs.size:=λe=>Br (Heap.lt_size e)
  have k2:∀b o,b∉[z,TI,TO,A,l]->s.heap.get? b=some o->g2.get? b=some o:=λb o f q=>by
   exact m.extBut b o (nm5 f).1 (Z b o (nm5 f).2 q)
  have kTI:g2.get? TI=_:=m.extBut TI _ D.zTI.symm (Z TI _ (nm4 D.zTI.symm D.io D.I1 D.I2) n);have tt:IsTup g2 s.heap.objs.size [u,v].toArray/\NoD g2 s.heap.objs.size:={{_,m.extBut _ _ (N g).symm a5,rfl,_,rfl},{_,m.extBut _ _ (N g).symm a5,rfl}};refine{.ref s.heap.objs.size,_,I.turnedT (t':=s.toks) (p:=s.heap.objs.size) (vs:=[x,y]) J k2 (Ap _) (.cons rx (.cons ry .nil)) (by show 2<=sizeLine;decide) tt.1 tt.2,rfl,{_,x,y,I.hok.fresh (Ap _),rfl,rfl,λv u x=>by
   obtain⟨e1,y⟩:=inj v u x;rw[e1,y];exact⟨C,hy⟩},{zz,kTI,{_,_,m.extBut _ _ D.zTO.symm a2},(d.keep (i+1) j g2).1 ((pt (i+1) j).1 a3) λo e=>m.extBut _ o D.z1.symm e,(d.keep (i+1) j g2).2 ((pt (i+1) j).2 a4) λo e=>m.extBut _ o D.z2.symm e},λb f=>?_}
  have m:b≠s.heap.objs.size:=j8 (P:=λb=>b≠s.heap.objs.size) (N g) (N n) (N B)
   (let ⟨_,e,_⟩:=(d.obj i s.heap).1 G;N e) (let ⟨_,e,_⟩:=(d.obj i s.heap).2 M;N e) f
  rw[ah m];exact(J b f).1
 done:=by
  intro X hP hw hK hc i A5 s Y H E I J r hg;subst hP hw;obtain⟨U,Q,R,C⟩:=hg;obtain⟨g,n,⟨a,b,B⟩,G,M⟩:=r;obtain⟨n1,n2⟩:=d.there H U Q R;have O:∀c∈[z,TI,TO,A,l],l1≠c/\l2≠c:=λc f=>{λe=>n1 ((congrArg H e).trans (J c f).1),λe=>n2 ((congrArg H e).trans (J c f).1)}
  obtain⟨us,vs,ru,rv,inj,P1,P2,W1,W2,p1,p2,pt⟩:=d.vals X hK A5 Y H s U Q I R (O A in4).1.symm (O l in5).2.symm;have D:=zap nd O;have W:s.TypeIs (.ref z) "zip":={_,g,rfl};have a:us[i]?=none\/vs[i]?=none:=by
   rcases C with C | C
   ·exact .inl (List.getElem?_eq_none (by rw[<-ru.length];exact C))
   ·exact .inr (List.getElem?_eq_none (by rw[<-rv.length];exact C))
  delta pyNext;refine Ac (wpAny_attempt (wpAny_callSpecial?_slot (name:=Str.ofString "__next__") W F.slot_zip_next (DX F.slot_zip_next W F.entry_zip_next (qQ (I.ok.hd hc) W1 W2 D g n B (p1 i G) (p2 i M) a λj e Z d=>?_) (F.args_zip_next_1 _))));obtain⟨o,c,a⟩:=d;refine Ac (wpAny_isInstance (T:="StopIteration") (b:=true) ⟨o,c,a⟩ isSubtype_stop (Ao {rfl,I.turnedF J λb o f q=>Z b o (λn=>f (qV n)) q}))
 self:=λ_ _ _ _ _ r h=>wpAny_pyIter_zip r.1 h
def Ir(a b:Addr):Hp->List V->List V->Prop:=λH xs ys=>H a=some (.tup xs)/\H b=some (.tup ys)
def Iu(a b:Addr):Hp->List V->List V->Prop:=λH xs ys=>Rd H a (.lst xs)/\Rd H b (.lst ys)
def qW{P:Program}{w:World}{K:FG}{b a c d:Addr}:ZW P w K b a c d (Ir b a) (λk h=>h.IsTupleIter c b k) (λk h=>h.IsTupleIter d a k) where
 obj:=λk h=>{λ⟨o,a,c,d⟩=>{o,a,λv z=>by rw[d] at z;cases z},λ⟨o,a,c,d⟩=>{o,a,λv z=>by rw[d] at z;cases z}}
 keep:=λk h b=>{λa q=>a.at q,λa q=>a.at q}
 there:=λH b a q=>{(λz=>by rw[q.1] at z;cases z),(λz=>by rw[q.2] at z;cases z)}
 vals:=λX d c Y H s b a I q g l=>by
  obtain⟨us,f,d,_⟩:=I.tuple (AS.of q.1);obtain⟨b,i,j,_⟩:=I.tuple (AS.of q.2);exact{us,b,f,i,λc e a=>{I.tuple_inj (AS.of a.1) (AS.of q.1),I.tuple_inj (AS.of a.2) (AS.of q.2)},_,_,Dg.tup g,Dg.tup l,λk z=>⟨z,d⟩,λk z=>⟨z,j⟩,λk h=>{λz=>z.1,λz=>z.1}}
def qX{P:Program}{w:World}{K:FG}{b a c d:Addr}:ZW P w K b a c d (Iu b a) (λk h=>h.IsListIter c b k) (λk h=>h.IsListIter d a k) where
 obj:=λk h=>{λ⟨o,a,c,d⟩=>{o,a,λv z=>by rw[d] at z;cases z},λ⟨o,a,c,d⟩=>{o,a,λv z=>by rw[d] at z;cases z}}
 keep:=λk h b=>{λa q=>a.at q,λa q=>a.at q}
 there:=λH b a q=>{(λz=>by rcases q.1 with e | ⟨_,e⟩<;>(rw[e] at z;cases z)),(λz=>by rcases q.2 with e | ⟨_,e⟩<;>(rw[e] at z;cases z))}
 vals:=λX d c Y H s b a I q g l=>by
  obtain⟨us,f,d,_⟩:=I.list (.inl q.1);obtain⟨b,i,j,_⟩:=I.list (.inl q.2);exact{us,b,f,i,λc e a=>{I.list_inj (.inl a.1) (.inl q.1),I.list_inj (.inl a.2) (.inl q.2)},_,_,Dg.lst g,Dg.lst l,λk z=>⟨z,d.isList⟩,λk z=>⟨z,j.isList⟩,λk h=>{λz=>z.1,λz=>z.1}}
section
variable{X:Cx}{elts:List Expr}{x1:Nat}{tpos:Pos}
def qY(n:Nat):[n+4,n+2,n+3,n,n+1].Nodup:=by
 simp only[Fp,AE,DJ,or_false,not_or,List.nodup_nil,and_true,not_false_eq_true];omega
def kc{b n:Nat}(h:b∈[n+4,n+2,n+3,n,n+1]):n<=b:=by
 simp only[AE,DJ,or_false] at h;omega
def KO(ta:TA):TI:=λY H R=>ta Y H λvs H1=>∃a b xs ys,vs=[.ref a,.ref b]/\((Ir a b H1 xs ys/\R (Izp (Ir a b)) H1)\/(Iu a b H1 xs ys/\R (Izp (Iu a b)) H1))
def qZ{b a:Expr}{c:TA}{p pos:Pos}(g:Gl X "zip")(j:X.mg "zip" = none)(i:PA X [b,a] c)(f:autoParam (starEach [b,a] X.env=(false,eval b X.env)::starEach [a] X.env) uR)(d:autoParam (starEach [a] X.env=[(false,eval a X.env)]) uR):PI X (.Tuple elts x1 tpos) (.Call (.Name "zip" p) [b,a] [] pos) (KO c):=by
 intro e s Y H R I h;refine Call_ (cA I g j boot_zip (PyProof.Rows.callWith_type1 (ai (i pos e s Y H _ I h) λus c hI121=>?_) f (by rw[d];rfl)));obtain⟨l,H1,I1,f,d⟩:=hI121;obtain⟨a,b,h,g,rfl,q⟩:=d;cases f with
 | cons r d=>
   cases d with
   | cons r' d=>
     cases d;cases r;cases r';have o:=qY c.heap.objs.size;have p:∀b∈[c.heap.objs.size+4,c.heap.objs.size+2,c.heap.objs.size+3,c.heap.objs.size,c.heap.objs.size+1],Di X e H1 b:=λb d=>I1.fpOk (kc d) (I1.hok.fresh (kc d))
     rcases q with⟨e,q⟩ | ⟨e,q⟩
     ·obtain⟨us,r,f,_⟩:=I1.tuple (AS.of e.1)
      obtain⟨l,u,j,_⟩:=I1.tuple (AS.of e.2);refine qS (show c.heap.IsTuple a us.toArray from f) (show c.heap.IsTuple b l.toArray from j) ?_;obtain⟨d,h,m,i,n,g⟩:=fe "tuple_iterator" c.heap a b;refine wpAny_pyIter_zip (s:={ c with heap:=zC "tuple_iterator" c.heap a b }) d ?_;exact{_,_,_,_,H1,rfl,I1.kept (t':=c.toks) g,j9 qW o,{d,h,{_,_,m},{_,i,rfl,rfl},{_,n,rfl,rfl}},p,q}
     ·obtain⟨us,r,f,_⟩:=I1.list (.inl e.1)
      obtain⟨l,u,j,_⟩:=I1.list (.inl e.2);refine qT f.isList j.isList ?_;obtain⟨d,h,m,i,n,g⟩:=fe "list_iterator" c.heap a b;refine wpAny_pyIter_zip (s:={ c with heap:=zC "list_iterator" c.heap a b }) d ?_;exact{_,_,_,_,H1,rfl,I1.kept (t':=c.toks) g,j9 qX o,{d,h,{_,_,m},{_,i,rfl,rfl},{_,n,rfl,rfl}},p,q}
variable{S:Type}{W:Wd S}{c:Dx W}{g:Gr}
instance tDB{S:Type}{W:Wd S}(c:Dx W)(f:Ba S):TA:=λY H Q=>∃Z st,Ax c H Y Z/\W.ok st H/\
 Aa (f Z st) (λl st'=>∀vs H',Ah W H H'->W.ok st' H'->aa c.K (Av c Y Z) H' l vs->Q vs H') λx st'=>∀H',Ah W H H'->W.ok st' H'->c.Ex x st' H'
instance DB(X:Cx){S:Type}{W:Wd S}(c:Dx W)(es:List Expr)(f:Ba S):Prop:=PA X es (tDB c f)
def xx:DB X c [] (Gb S):=bt.imp λY H Q ⟨Z,b,R,a,w⟩=>w [] H Ah.refl a (aa.nil.mpr rfl)
def xy(h:DE X c .B e f)(b:DB X c es r)(a:autoParam 's' uR):DB X c (e::es) (Cu S f r):=
 (aX h b a).imp λY H Q hI35=>by
  obtain⟨Z,a,R,b,w⟩:=hI35;refine{Z,a,R,b,ak (ae.mp w) (λd a q v H1 e f z=>?_) λx a q=>q};refine{Z,a,R.ext b e,f,ak (ae.mp q) (λl b q i H2 h a j=>?_) λx b q H2 h a=>q H2 (e.trans h) a};have z:Is c.K (Av c Y Z) H1 d v:=z;exact q (v::i) H2 (e.trans h) a (aa.cons.mpr {v,i,rfl,z.ext h f (λb n=>n.1),j})
def Dz(l m:List D):List D:=List.zipWith (λa b=>.tup [a,b]) l m
instance D.tupL:D->Option (List D)
 | .tup l=>some l
 | _=>none
theorem D.tupL_eq{d:D}{l:List D}(h:d.tupL=some l):d=.tup l:=by
 cases d with
 | tup m=>cases h;rfl
 | _=>cases h
def JH(l:List D):Option (List D):=match l with
 | [a,b]=>(a.tupL.bind λl=>b.tupL.map (Dz l)).or (a.asL.bind λl=>b.asL.map (Dz l))
 | _=>none
def ke{i:Nat}(h:(Dz l m)[i]?=some d):∃x y,l[i]?=some x/\m[i]?=some y/\d=.tup [x,y]:=by
 delta Dz at h;rw[List.getElem?_zipWith] at h;cases q:l[i]? with
 | none=>rw[q] at h;simp at h
 | some x=>
   cases a:m[i]? with
   | none=>rw[q,a] at h;simp at h
   | some y=>rw[q,a] at h;cases h;exact⟨x,y,rfl,rfl,rfl⟩
def q7{i:Nat}(h:(Dz l m).length<=i):l.length<=i\/m.length<=i:=by
 delta Dz at h;rw[List.length_zipWith] at h;omega
def kg(v:∀(a:Dx W) e f H2,Bg (Av c Y Z) (Av a e f) H1 H2->Sq H2 i h)(q:aa c.K (Av c Y Z) H1 l i)(b:aa c.K (Av c Y Z) H1 m h):Hn c Y Z H1 (Izp Sq) (Dz l m):=by
 intro a d e f H2 o k R2 p j;have n:Sq H2 i h:=v a e f H2 k;have j:aa c.K (Av a e f) H2 l i:=q.mono k;have o:aa c.K (Av a e f) H2 m h:=b.mono k;refine{λd m=>?_,λb=>{i,h,n,by rw[<-j.length,<-o.length];exact q7 b}};obtain⟨x,y,s,l,rfl⟩:=ke m;obtain⟨r,d,p⟩:=j.get s;obtain⟨q,b,m⟩:=o.get l;refine{⟨i,h,r,q,n,d,b⟩,?_};rintro l H3 ⟨u,s,o,j,rfl,rfl,l⟩;obtain⟨s,o⟩:=l i h n;rw[d] at s;cases s;rw[b] at o;cases o;have l:Ci H2 (Ag H2 u (.tup [r,q])):=λb o d=>by rw[ah (ay d j)];exact d
 have n:Bg (Av a e f) (Av a e f) H2 (Ag H2 u (.tup [r,q])):=bG (λb o d _=>l b o d) λb o a d=>{a,l b o d}
 exact{l,Is.tup aw (aa.cons.mpr {_,_,rfl,p.mono n,aa.one (m.mono n)})}
open H in
def xz(b:Gl X "zip")(j:X.mg "zip" = none)(e:DB X c [d,h] f)(i:autoParam (starEach [d,h] X.env=(false,eval d X.env)::starEach [h] X.env) uR)(a:autoParam (starEach [h] X.env=[(false,eval h X.env)]) uR):DI X c (.Tuple elts x1 tpos) (.Call (.Name "zip" p) [d,h] [] pos) (FP S JH f):=
 (qZ b j e i a).imp λY H R hI36=>by
  obtain⟨Z,b,a,e,w⟩:=hI36;refine{Z,b,a,e,ak (ae.mp w) (λl a q b H1 e n z=>?_) λx a q=>q};obtain⟨m,d,q⟩:=au.mp q;cases l with
  | nil=>cases d
  | cons b r=>cases r with
    | nil=>cases d
    | cons a r=>cases r with
      | cons _ _=>cases d
      | nil=>
        have d:(b.tupL.bind λl=>a.tupL.map (Dz l)).or (b.asL.bind λl=>a.asL.map (Dz l))=some m:=d;obtain⟨v,r,h,A,f⟩:=aa.cons.mp z;obtain⟨v',r',C,f,B⟩:=aa.cons.mp f;cases y:(b.tupL.bind λl=>a.tupL.map (Dz l)) with
        | some x=>
          rw[y] at d;cases d;obtain⟨l,r,x⟩:=Option.bind_eq_some_iff.mp y;obtain⟨I,u,rfl⟩:=Option.map_eq_some_iff.mp x;rw[D.tupL_eq r] at A;rw[D.tupL_eq u] at f;obtain⟨a,o,s,s0,i⟩:=Is.tup_iff.mp A;obtain⟨b,m,v,p,j⟩:=Is.tup_iff.mp f;rw[C,aa.nil.mp B,s,v] at h;exact{a,b,o,m,h,.inl {⟨s0,p⟩,q _ H1 e n (kg (λz E G H2 k=>{k.tup a o s0,k.tup b m p}) i j)}}
        | none=>
          rw[y] at d;obtain⟨l,r,x⟩:=Option.bind_eq_some_iff.mp d;obtain⟨I,u,rfl⟩:=Option.map_eq_some_iff.mp x;obtain⟨a,o,s,s0,i,d⟩:=Is.asL A r;obtain⟨b,m,v,p,j,l⟩:=Is.asL f u;rw[C,aa.nil.mp B,s,v] at h;exact{a,b,o,m,h,.inr {⟨s0,p⟩,q _ H1 e n (kg (λz E G H2 k=>{d _ _ k,l _ _ k}) i j)}}
end
end L2
namespace HT
open PySem PyProof.Rows
end HT
namespace L2
section
variable{X:Cx}{e st:Expr}{te ts:TE}{p2 pos:Pos}
end
section
variable{X:Cx}{S:Type}{W:Wd S}{c:Dx W}{g ga gb:Gr}{a b:Expr}{fa fb:Fn S}{pos p2:Pos}
abbrev FnO(S:Type):=Ae->S->Ar S (Option Int)
instance tDO{S:Type}{W:Wd S}(c:Dx W)(f:FnO S):TO:=λY H Q=>∃Z st,Ax c H Y Z/\W.ok st H/\
 Aa (f Z st) (λo st'=>∀H',Ah W H H'->W.ok st' H'->Q o H') λx st'=>∀H',Ah W H H'->W.ok st' H'->c.Ex x st' H'
instance DO(X:Cx){S:Type}{W:Wd S}(c:Dx W)(e:Option Expr)(f:FnO S):Prop:=PO X e (tDO c f)
def PO.imp(h:PO X e t)(i:∀Y H Q,t' Y H Q->t Y H Q):PO X e t':=λd s Y H Q I q=>h d s Y H Q I (i Y H Q q)
instance pNo(S:Type):FnO S:=λ_ st=>.ok none st
instance D.int?:D->Option Int
 | .int i=>some i
 | _=>none
instance pSo(S:Type)(f:Fn S):FnO S:=λZ st=>(f Z st).bind λd st1=>(Au d.int? st1).bind λi st2=>.ok (some i) st2
def xA:DO X c none (pNo S):=i9.imp λY H Q ⟨Z,e,R,d,w⟩=>w H Ah.refl d
def xB(h:DE X c g a fa):DO X c (some a) (pSo S fa):=(ja h).imp λY H Q hI37=>by
 obtain⟨Z,d,R,e,w⟩:=hI37;refine{Z,d,R,e,ak (ae.mp w) (λd f q v H1 e h z=>?_) λx f q=>q};obtain⟨i,l,q⟩:=au.mp (ae.mp q);cases d with
 | int j=>cases l;exact{_,Is.int_iff.mp (show Is c.K 'w' H1 (.int i) v from z.toR),q H1 e h}
 | _=>cases l
instance cutD(xs:List D)(lo hi:Option Int):List D:=(xs.drop (HT.sIx xs.length 0 lo)).take (HT.sIx xs.length xs.length hi-HT.sIx xs.length 0 lo)
def gF{K:FG}{A:Addr->Prop}{H:Hp}{l:List D}{d:List V}{e f:Option Int}(h:aa K A H l d):aa K A H (cutD l e f) (Eo d e f):=by
 delta cutD Eo;rw[h.length];exact(h.drop _).take _
theorem kh:∀{l:List D} {n:Nat},D.immL l=true->D.immL (l.take n)=true
 | [],_,_=>by simp[D.immL]
 | _::_,0,_=>by simp[D.immL]
 | x::l,n+1,m=>by
   have m':x.imm=true/\D.immL l=true:=by simpa [D.immL] using m
   simp only[List.take_succ_cons,D.immL,m'.1,kh m'.2,De]
theorem ki:∀{l:List D} {n:Nat},D.immL l=true->D.immL (l.drop n)=true
 | [],_,_=>by simp[D.immL]
 | _::_,0,m=>m
 | x::l,n+1,m=>by
   have m':x.imm=true/\D.immL l=true:=by simpa [D.immL] using m
   exact ki (l:=l) (n:=n) m'.2
def gG{l:List D}{d e:Option Int}(m:D.immL l=true):D.immL (cutD l d e)=true:=kh (ki m)
def Iv(lo hi:Option Int):D->Option D
 | .lst l=>if D.immL l=true then some (.lst (cutD l lo hi)) else none
 | .fl l=>if D.immL l=true then some (.lst (cutD l lo hi)) else none
 | .tup l=>if D.immL l=true/\¬(HT.sIx l.length 0 lo=0/\HT.sIx l.length l.length hi=l.length) then some (.tup (cutD l lo hi)) else none
 | _=>none
def Iw(S:Type)(f:Fn S)(lo hi:FnO S):Fn S:=λZ st=>(f Z st).bind λd st1=>(lo Z st1).bind λl st2=>(hi Z st2).bind λh st3=>Au (Iv l h d) st3
open H in
def xC{lo hi:Option Expr}{fl fh:FnO S}(hK:c.K=X.K)(ha:DE X c ga a fa)(hl:DO X c lo fl)(hh:DO X c hi fh):DE X c g (.Subscript a (.Slice lo hi none p2) pos) (Iw S fa fl fh):=
 (jb (jh.or oW) ha hl hh).imp λY H Q hI38=>by
  obtain⟨Z,st,R,ok,w⟩:=hI38;refine{Z,st,R,ok,ak (ae.mp w) (λd st1 q v H1 e ok1 z=>?_) λx st1 q=>q};refine{Z,st1,R.ext ok e,ok1,ak (ae.mp q) (λl st2 q H2 e2 ok2=>?_) λx st2 q H2 e2 ok2=>q H2 (e.trans e2) ok2};have R2:=(R.ext ok e).ext ok1 e2;refine{Z,st2,R2,ok2,ak (ae.mp q) (λh st3 q H3 e3 ok3=>?_) λx st3 q H3 e3 ok3=>q H3 ((e.trans e2).trans e3) ok3};obtain⟨dd,e4,q⟩:=au.mp q;have ez:Ah W H1 H3:=e2.trans e3;have z3:Is c.K 'w' H3 d v:=z.toR.ext ez ok1;have R3:=R2.ext ok2 e3;have et:Ah W H H3:=e.trans ez;cases d with
  | lst m=>
    have e4:(if D.immL m=true then some (D.lst (cutD m l h)) else none)=some dd:=e4;split at e4
    ·rename_i im
     cases e4;obtain⟨p,vs,ev,n,s0,i⟩:=Is.lst_iff.mp z3;refine .inl {p,vs,ev,.of s0,λr hr=>?_};exact q _ _ (et.trans (Ah.laid hr)) (aL ok3 hr) ((AB.val R3 (AB.lst ok3 hr (λ_ n=>n) (gG im) (gF i)) g).back et ok3)
    ·cases e4
  | fl m=>
    have e4:(if D.immL m=true then some (D.lst (cutD m l h)) else none)=some dd:=e4;split at e4
    ·rename_i im
     cases e4;obtain⟨p,vs,ev,s0,i,_⟩:=Is.asL z3 rfl;refine .inl {p,vs,ev,.inl s0,λr hr=>?_};exact q _ _ (et.trans (Ah.laid hr)) (aL ok3 hr) ((AB.val R3 (AB.lst ok3 hr (λ_ n=>n) (gG im) (gF i)) g).back et ok3)
    ·cases e4
  | tup m=>
    have e4:(if D.immL m=true/\¬(HT.sIx m.length 0 l=0/\HT.sIx m.length m.length h=m.length) then some (D.tup (cutD m l h)) else none)=some dd:=e4;split at e4
    ·rename_i im
     cases e4;obtain⟨p,vs,ev,s0,i⟩:=Is.tup_iff.mp z3;refine .inr {p,vs,ev,.of s0,by rw[<-i.length];exact im.2,λr hr=>?_};exact q _ _ (et.trans (Ah.laid hr)) (aL ok3 hr) ((AB.val R3 (AB.tup ok3 hr (λ_ n=>n) (gG im.1) (gF i)) g).back et ok3)
    ·cases e4
  | _=>cases e4
def q8(m:D.immL l=true):D.immL l.reverse=true:=by
 induction l with
 | nil=>rfl
 | cons x l d=>
   have m':x.imm=true/\D.immL l=true:=by simpa [D.immL] using m
   rw[GA];exact bI (d m'.2) (by simp[D.immL,m'.1])
def Et:List D->Option (List Int)
 | []=>some []
 | .int i::l=>(Et l).map λr=>i::r
 | _=>none
theorem kj{K:FG}{A:Addr->Prop}{H:Hp}:∀{l:List D} {d:List V} {ns:List Int},Et l=some ns->aa K A H l d->d=ns.map V.int
 | [],d,ns,e,h=>by cases e;rw[aa.nil.mp h];rfl
 | .int i::l,d,ns,e,h=>by
   unfold Et at e;cases q:Et l with
   | none=>rw[q] at e;cases e
   | some r=>
     rw[q] at e;cases e;obtain⟨v,r',f,i,j⟩:=aa.cons.mp h;rw[f,Is.int_iff.mp i,kj q j];rfl
 | .non::_,_,_,e,_=>by cases e
 | .bl _::_,_,_,e,_=>by cases e
 | .str _::_,_,_,e,_=>by cases e
 | .tup _::_,_,_,e,_=>by cases e
 | .lst _::_,_,_,e,_=>by cases e
 | .dct _ _::_,_,_,e,_=>by cases e
 | .fl _::_,_,_,e,_=>by cases e
 | .fd _ _::_,_,_,e,_=>by cases e
def JI(S:Type):Ay S:=λ_ _=>.bad
def xD:DS X c s (JI S):=λd s Y H D I ⟨_,_,_,_,w⟩=>w.elim
end
section
variable{S:Type}
def JJ(S:Type)(i j:Nat)(f:Ba S):Ay S:=λZ st=>(f Z st).bind λl st1=>match l with
 | [d,e]=>(Au (put Z i d) st1).bind λZ1 st2=>(Au (put Z1 j e) st2).bind λZ2 st3=>.ok (.nx Z2) st3
 | _=>.bad
open H in
def cu{i:Nat}(h:put Z i d=some Z'):i<Z.length/\Z'=Z.set i (.bor d):=by
 delta put at h;split at h
 ·rename_i a;cases h;exact⟨a,rfl⟩
 ·cases h
open H in
def xE{i j:Nat}{x y:Str}{kt k2 pt2}(p:X.calm=true)(q:X.N.Nodup)(o:X.N[i]?=some x)(h:X.N[j]?=some y)(d:i≠j)(n:X.env.scope.names.lookup x=some .local)(e:X.env.scope.names.lookup y=some .local)(l:DB X c [a,b] f)(m:swappedStores [.Tuple [.Name x px,.Name y py] kt pt] (.Tuple [a,b] k2 pt2) X.env=pure (some [x,y]))(g:autoParam (swapsWithSole [.Tuple [.Name x px,.Name y py] kt pt] (.Tuple [a,b] k2 pt2) pos.line X.env=pure false) uR) :
 DS X c (.Assign [.Tuple [.Name x px,.Name y py] kt pt] (.Tuple [a,b] k2 pt2) pos) (JJ S i j f):=
 (n5 p q o h d n e l m g).imp λD Y H hI39=>by
  obtain⟨Z,a,R,g,w⟩:=hI39;refine{Z,a,R,g,ak (ae.mp w) (λl b q d H1 e a z=>?_) λx b q d e f=>q d (e.f0 R) f};split at q
  ·rename_i d e'
   obtain⟨v,r,f,l,b⟩:=aa.cons.mp z;obtain⟨v',r',j,b,h⟩:=aa.cons.mp b;rw[j,aa.nil.mp h] at f;obtain⟨j,m,q⟩:=au.mp (ae.mp q);obtain⟨j,h,q⟩:=au.mp (ae.mp q);obtain⟨n,rfl⟩:=cu m;obtain⟨j,rfl⟩:=cu h;have m:=(R.ext g e).setB n l;have h:Bg (Av c Y Z) (Av c (Y.set i (some v)) (Z.set i (.bor d))) H1 H1:=Bj.keepT (R.ext g e) a bc;have R2:=m.setB j (b.mono h);exact{v,v',f,q _ _ ((Ah.frm e).trans (bc.trans bc)) a R2}
  ·exact q.elim
end
section
variable{X:Cx}{S:Type}{W:Wd S}{c:Dx W}{g ga gb:Gr}{a b:Expr}{fa fb:Fn S}{pos p2:Pos}
def BL(a b:D):Option D:=(AU (λi j=>.int (i+j)) a b).or ((Hu a b).or ((Ip a b).or (Iq a b)))
def kl:A8 X (binaryOp .Add) (λx y H Q=>Ei (λi j=>.int (i+j)) x y H Q\/(Hj x y H Q\/(Hi X.K x y H Q\/Hv X.K x y H Q))):=dw.or (ph.or (oX.or qN))
def km{K:FG}(d:c.K=K):Bx c (λx y H Q=>Ei (λi j=>.int (i+j)) x y H Q\/(Hj x y H Q\/(Hi K x y H Q\/Hv K x y H Q))) BL:=qu.or (qG.or ((qH d).or qO))
instance D.seq?:D->Option (List D)
 | .tup l=>some l
 | .lst l=>some l
 | _=>none
def xF{tg e:Expr}{f:Fn S}(hK:c.K=X.K)(h:DE X c .B e f):DI X c tg e (Er S D.seq? f):=by
 intro A5 s Y H R I q;obtain⟨Z,st,R0,ok,w⟩:=q;delta Er at w;cases q:f Z st with
 | bad=>rw[q] at w;exact w.elim
 | exc x st1=>
   refine jH (tg:=tg) hK h A5 s Y H R I {Z,st,R0,ok,?_};delta Er;rw[q] at w ⊢;exact w
 | ok d st1=>
   rw[q] at w;cases d with
   | tup l=>
     refine jH (tg:=tg) hK h A5 s Y H R I {Z,st,R0,ok,?_};delta Er;rw[q];exact w
   | lst l=>
     refine qq (tg:=tg) hK h A5 s Y H R I {Z,st,R0,ok,?_};delta Er;rw[q];exact w
   | _=>exact w.elim
def GO(S:Type)(i:Nat)(f:Fn S)(o:Int->Int->Int):Ay S:=λZ st=>match rd Z i with
 | some (.int a)=>(f Z st).bind λd st1=>match d with
   | .int b=>(Au (put Z i (.int (o a b))) st1).bind λZ1 st2=>.ok (.nx Z1) st2
   | _=>.bad
 | _=>.bad
open H in
def xG{i:Nat}{x:Str}{e:Expr}{f:Fn S}{d:Operator}{o:Int->Int->Int}{p:Pos}(n:X.N.Nodup)(r:X.N[i]?=some x)(j:Loc X.env.scope x)(l:PIp X d (ipI o))(m:DE X c .R e f)(h:autoParam (X.fn x=true\/X.env.scope.names.lookup x=some .local) M3._auto_1) :
 DS X c (.AugAssign (.Name x p) d e pos) (GO S i f o):=
 (n6 n r j m l h).imp λD Y H hI40=>by
  obtain⟨Z,d,R,i,w⟩:=hI40;delta GO at w;split at w
  ·rename_i a0 f
   obtain⟨v,h,n⟩:=R.rd f;refine{v,h,Z,d,R,i,ak (ae.mp w) (λd f q j H1 e h z=>?_) λx f q l e d=>q l (e.f0 R) d};split at q
   ·rename_i f
    obtain⟨l,d,q⟩:=au.mp (ae.mp q);obtain⟨l,rfl⟩:=cu d;have m:=R.ext i e;have z':Is c.K 'w' H1 (.int f) j:=z.toR;exact{a0,f,Is.int_iff.mp n,Is.int_iff.mp z',q _ _ ((Ah.frm e).trans bc) h (m.setB l (Is.int_iff.mpr rfl))}
   ·exact q.elim
  ·exact w.elim
def JK:List D->Ar Unit D:=λ_=>.bad
def q9{P:Program}{w:World}{K:FG}{e:Str->Option Value}{d:Heap}{f:Addr}{h:FuncData}{i:List Str}{k:Nat}:Cs P w K e d CX0 k f h i (sp0 K JK):=
 {λf H Q E ⟨_,_,h⟩=>h.elim,λA d s H e us f Q E _ _ _ _ ⟨_,_,h⟩=>h.elim}
def xH{id:String}{x:Str}{p pos:Pos}{e:Expr}{es:List Expr}{r:List V->Hp->VK->Prop}{o:List D->Option D}{f:Ba S}(n:DA X c (e::es) f)(s:Ch X (.builtin id) r)(u:Ck c r o)(m:Gl X x)(j:X.mg x=none)(i:bootBuiltins x=some (.builtin id))(q:autoParam (x≠"__name__") uD)(h:autoParam 'u' uD)(l:autoParam 's' uR)(d:autoParam 'i' uR):DE X c g (.Call (.Name x p) (e::es) [] pos) (fA S o f):=
 jD (id:=id) (dC s m j i n q h l d) rfl u
def xI{T:String}{x:Str}{p pos:Pos}{e:Expr}{es:List Expr}{r:List V->Hp->VK->Prop}{o:List D->Option D}{f:Ba S}(n:DA X c (e::es) f)(s:Ch X (.type T) r)(u:Ck c r o)(m:Gl X x)(j:X.mg x=none)(i:bootBuiltins x=some (.type T))(q:autoParam (x≠"__name__") uD)(h:autoParam 'u' uD)(l:autoParam 's' uR)(d:autoParam 'i' uR):DE X c g (.Call (.Name x p) (e::es) [] pos) (fA S o f):=
 jD (id:=T) (i6 s m j i n q h l d) rfl u
end
end L2
namespace PySem
namespace F
def lk_list_keys:typeLookup (.type "list") "keys" = pure none:=by rw[typeLookup_type,builtinLookup_eq_fast];kernel_rfl
end F
def ra(e:PlainL s.heap a i)(p:A.handled=none)(h:∀f j,(∀b o,s.heap.get? b=some o->f.get? b=some o)->Q none { s with heap:=f,toks:=j }) :
 wpAny 'r' A (getAttr? (.ref a) "keys") Q E s:=by
 obtain⟨⟨c,b,d,n⟩,k,l,m,c,b⟩:=e;simp only at m b c;subst m b c;obtain⟨e,g,d,j,m⟩:=s;have c:∀b,(⟨e,g,d,b,m⟩:Shared).TypeIs (.ref a) "list":=λ_=>{_,l,rfl}
 have d:=sub_AttributeError;have e:=F.slot_list_getattribute.lookup;have d:=F.slot_list_getattribute.bind (.ref a);have d:=am_list_getattr_none;delta getAttr? getAttrBy? getAttrBy;repeat (any_goals (first | assumption | exact c _ | ((with_reducible show wpAny _ _ (call (Value.builtin "list.__getattribute__") _ _) _ _ _);refine call_meets F.slot_list_getattribute (c _) am_entry_list_getattribute (F.args_list_getattribute_2 _ _) (meets_getattribute_miss_list a i k n "keys" _ F.lk_list_keys (by decide +kernel) (by size_fits)) {l,p,λf b e a=>?_}) | wp_step))
 obtain⟨c,u',d⟩:=a.there;show wpAny _ _ (getattributeRaised _ _ _ _ _ _ _) _ _ _;delta getattributeRaised;repeat (any_goals (first | assumption | wp_step))
 exact h f b a.keeps
end PySem
namespace PySem.F
def plain_upd_loop:plainId "dict.update.loop" = true:=by decide +kernel
def entry_upd_loop:entryFor table "dict.update.loop" = some Builtin.«dict.update.loop»:=entryFor_of_fast (by kernel_rfl)
end PySem.F
namespace L2
def Fw(H:Hp):List V->List (List Al×V)->Prop
 | [],ps=>ps=[]
 | v::vs,ps=>∃t b k x r,ps=(k,x)::r/\v=.ref t/\H t=some (.tup [.ref b,x])/\C4 H b k/\Fw H vs r
def FR(kvs ps:List (List Al×V)):List (List Al×V):=ps.foldl (λacc p=>Bp acc p.1 p.2) kvs
theorem Fw.keep(c:∀u,H d≠some (.tup u))(h:Fw H a ps):Fw (Ag H d o) a ps:=by
 induction a generalizing ps with
 | nil=>exact h
 | cons v a e=>
   obtain⟨t,b,k,x,r,f,j,d,i,g⟩:=h;exact{t,b,k,x,r,f,j,(ah λz=>c _ (z▸d)).trans d,i.keeps λb f q=>(ah λz=>c _ (z▸q)).trans q,e g}
section
variable{X:Cx}{A5:List 'p'}{Y:St}
open H in
def rb(hc:X.calm=true)(hu:X.A.in1.units+2<cLine):∀(n i:Nat) (s:Shared) (H:Hp) (f y:List (List Al×V)) (t:Tok),vs.length-i=n->i<=vs.length->Ab X A5 Y H s->Di X A5 H it->
 s.heap.IsListIter it a i->H a=some (.lst vs)->H d=some (.dT f)->Fw H (vs.drop i) y->f.length+y.length<sizeLine->Q (.ref d) (Ag H d (.dT (FR f y)))->
 codeAny 'e' X.A.in1 (.builtin "dict.update.loop" {[.ref d,.ref it,.int i t,.none],[]}) (wants (λr J=>r=.none/\EP X A5 Y Q (.ref d) J) X.xe) s:=by
 intro n;induction n with
 | zero=>
   intro i s H f y t W hi I l Cr B h j hz q;have e:i=vs.length:=Fm hi (Nat.le_of_sub_eq_zero W);subst e;rw[List.drop_length] at j;have j:y=[]:=j;subst j;obtain⟨its,rv,pl,_⟩:=I.list (AY.of B);obtain⟨v,f1,f2,R,Z,f5⟩:=l;refine codeAny_builtin F.entry_upd_loop ?_;rw[Around.under_plainId F.plain_upd_loop _];show wpAny _ X.A.in1.in1 (pyNext (.ref it) >>= λ_=>_) _ _ s;have hl:=rv.length;refine Ac (wpAny_pyNext_list_end (I.ok.hd hc) Cr pl.isList (Array.getElem?_eq_none (BQ (AX.trans hl.symm))) λG eb=>?_);have I1:Ab X A5 Y H { s with heap:=G }:=I.turned (t':=s.toks) (λb o g e=>eb b o g e) v f1 R Z f5;show wpAny _ X.A.in1.in1 (Builtin.Dict.addKeywords d [] >>= λ_=>ret .none) _ _ _;refine Ac (Ao (Ao ?_));refine{rfl,.ref d,H,I1,rfl,?_};have e2:Ag H d (.dT (FR f []))=H:=by
    funext b;by_cases g:b=d
    ·subst g;rw[aw,h];rfl
    ·rw[ah g]
   rw[e2] at q;exact q
 | succ n ih=>
   intro i s H f y t W hi I l Cr B h j hz q;have m:i<vs.length:=Nat.lt_of_sub_eq_succ W;rw[List.drop_eq_getElem_cons m] at j;obtain⟨tt,b,k,x,r,rfl,ev,ht,g,hr⟩:=j;obtain⟨its,rv,pl,_⟩:=I.list (AY.of B);obtain⟨u,hu',ru⟩:=rv.get (i:=i) (x:=vs[i]) (AO m);rw[ev] at ru;cases (show u=Value.ref tt from ru);obtain⟨v,f1,f2,R,Z,f5⟩:=id l;refine codeAny_builtin F.entry_upd_loop ?_;rw[Around.under_plainId F.plain_upd_loop _];show wpAny _ X.A.in1.in1 (pyNext (.ref it) >>= λ_=>_) _ _ s;refine Ac (wpAny_pyNext_list_item Cr pl.isList (x:=.ref tt) (by simpa using hu') λG E sb=>?_);have I1:Ab X A5 Y H { s with heap:=G }:=I.turned (t':=s.toks) (λc o g e=>(sb.2 c g).trans e) v f1 R Z f5;obtain⟨ps2,r2,p2,_⟩:=I1.tuple (AS.of ht);obtain⟨o2,P,hc2,n2,hd2⟩:=id p2;obtain⟨U,C,rfl,rk,rx⟩:∃U C,ps2=[U,C]/\Am (.ref b) U/\Am x C:=by
    cases r2 with
    | cons p q=>
      cases q with
      | cons p' q'=>cases q';exact{_,_,rfl,p,p'}
   cases (show U=Value.ref b from rk);refine Ac (wpAny_holding (Ac (wpAny_tryCatch ?_)));delta Builtin.Dict.pairItems;refine Ac (wpAny_typeOf (T:="tuple") ⟨o2,P,hc2⟩ ?_);rw[if_pos 'z'];refine Ac (Ez P hd2 (Ao ?_));obtain⟨z,hdm,xs,O,dd⟩:=gh I1.hok h;have hz1:xs.length<=sizeLine:=by rw[<-Paired.length O];exact z
   have M:f.length+(r.length+1)<sizeLine:=hz;have hl:(Bp f k x).length<=sizeLine:=Az (dH f k x) (Az (Dt (Fi (AF _)) _) (BB M));show wpAny _ _ (holding [.ref b,C] (dictSet d (.ref b) C)) _ _ _;refine wpAny_holding (wpAny_dictSet_heap (hsz:=hz1) (cW hu) (key_of I1.hok g) dd λh2 dd' hs=>Ao ?_);have I2:Ab X A5 Y (Ag H d (.dT (Bp f k x))) { s with heap:=h2,toks:=s.toks+(EN X.prog X.w).draws k }:=by
    obtain⟨q,es,ep,hq,h2',h3,h4,_,h5⟩:=dd';refine dI (s:={ s with heap:=G }) (t':=s.toks+(EN X.prog X.w).draws k) I1 (by rw[h];exact True.intro) hs ⟨q,hq⟩ {hl,hdm,_,(O.put k g rx).keeps λc ys ec=>?_,q,es,ep,hq,h2',h3,h4,h5};rw[ah (ci ec h (λz=>nomatch z))];exact ec
   have N:it≠d:=λe=>by rw[e,h] at v;cases v
   have nda:a≠d:=ci B h (λz=>nomatch z);have hs:Heap.SameBut d G h2:=hs;refine{plainId_quiet F.plain_upd_loop _,ih (i+1) _ _ (Bp f k x) r _ ((Nat.sub_succ ..).trans (congrArg Nat.pred W)) m I2 {by rw[ah N];exact v,f1,f2,R,Z,f5} (E.extBut hs.extBut N) (by rw[ah nda];exact B) aw (hr.keep λu e=>by rw[h] at e;cases e) ?_ ?_}
   ·exact Cb (Az (Nat.add_le_add_right (dH f k x) _) (BQ (Nat.add_right_comm ..))) M
   ·rw[upd_upd];exact q
def xJ(l:X.calm=true)(p:X.A.in1.units+2<cLine):Ch X (.type "dict") (λj H Q=>∃(a:Addr) (vs:List V) (f:List (List Al×V)),j=[.ref a]/\H a=some (.lst vs)/\Fw H vs f/\f.length<sizeLine/\∀d,H d=none->Q (.ref d) (Ag H d (.dT (FR [] f)))):=by
 intro A5 s Y H j us Q I r h;obtain⟨a,vs,f,rfl,i,n,v,q⟩:=h;obtain⟨u,rfl,b⟩:=br r;cases b;have e:X.A.handled=none:=I.ok.hd l;refine callType_codes (Q₁:=λc b=>c=.ref s.heap.objs.size/\b={ s with heap:=s.heap.push { cls:=.type "dict",data:=.dict #[] } }) F.kt_called_dict (F.kt_typeCall_dict_1 _) F.entry_dict_init (kt_code_dict_new _ ⟨rfl,rfl⟩) ?_;rintro c b ⟨rfl,rfl⟩;have g:=I.hok.fresh (Ap s.heap.objs.size);have I1:=I.laid (a:=s.heap.objs.size) (o:=.dT []) (h':=s.heap.push { cls:=.type "dict",data:=.dict #[] }) (t':=s.toks) (λ_ _ q=>AJ _ q) (Ap _) (gm s.heap I.big);have b:({ s with heap:=s.heap.push { cls:=.type "dict",data:=.dict #[] } }:Shared).TypeIs (.ref s.heap.objs.size) "dict":={_,Be _ rfl,rfl};refine{b,F.args_dict_init_2 _ _,?_};delta Builtin.«dict.__init__»;refine Ac ?_;delta Builtin.Dict.selfAndRest;refine Ac (wpAny_notOrdered_dict b ?_);show wpAny _ _ (pure (s.heap.objs.size,[Value.ref a])) _ _ _;refine Ao ?_;show wpAny _ _ (Builtin.Dict.updateFrom "dict.__init__" s.heap.objs.size (.ref a) [] .none) _ _ _;delta Builtin.Dict.updateFrom;have b:a≠s.heap.objs.size:=ay i g;have d:Ag H s.heap.objs.size (.dT []) a=some (.lst vs):=by rw[ah b];exact i
 obtain⟨c,h,m,_⟩:=I1.list (AY.of d);refine Ac (wpAny_typeOf m.isList.typeIs ?_);rw[if_pos 'z'];refine Ac (ra m e λh c r=>?_);have I2:Ab X A5 Y (Ag H s.heap.objs.size (.dT [])) { s with heap:=h,toks:=c }:=I1.kept (t':=c) r;obtain⟨e,i,b,_⟩:=I2.list (AY.of d);rw[if_pos (by rfl)];refine Ac (aZ (Ac (wpAny_pyIter_list b.isList (Ao ?_))));have I3:Ab X A5 Y (Ag H s.heap.objs.size (.dT [])) { s with heap:=h.push { cls:=.type "list_iterator",data:=.fields #[.ref a,.int 0 0] },toks:=c }:=I2.kept (t':=c) λb o e=>AJ _ e
 have b:Di X A5 (Ag H s.heap.objs.size (.dT [])) h.objs.size:=I2.fpOk (Ap _) (I2.hok.fresh (Ap _));refine{plainId_quiet F.plain_upd_loop _,rb l p (a:=a) (vs:=vs) vs.length 0 _ _ [] f _ rfl (AF _) I3 b {_,Be _ rfl,rfl,rfl} d aw ?_ (Cb (BQ (As _)) v) ?_}
 ·rw[List.drop_zero]
  exact n.keep λu e=>by rw[g] at e;cases e
 ·rw[L2.upd_upd];exact q _ g
end
theorem kn:∀{us:List Value} {ns:List Int},IntsAre us ns->Aq 'k' us
 | _,_,.nil=>.nil
 | _,_,.cons n t h=>.cons ⟨t,rfl⟩ (kn h)
section
variable{X:Cx}{S:Type}{W:Wd S}{c:Dx W}{g ga gb gc:Gr}{a b:Expr}{fa fb fc:Fn S}{pos p2:Pos}
def xK:Ch X (.builtin "sorted") (λj H Q=>∃(a:Addr) (ns:List Int),j=[.ref a]/\AY X.K H a 'k'/\ns.length<64/\∀p,H p=none->Q (.ref p) (Ag H p (.lst ((sortI ns).map V.int)))):=by
 intro d s Y H j us Q I r h;obtain⟨a,ns,rfl,f,d,q⟩:=h;obtain⟨u,rfl,e⟩:=br r;cases e;obtain⟨h,d,p,i⟩:=I.list f;have e:=d.length;rw[Ai] at e;refine sorted_ints p.isList (oV d) 'o' λf e l i m=>?_
 have e:=eq_sortI i m;subst e;obtain⟨e,n⟩:=sortedAll_at s.heap h f;have d:(sortI ns).length=ns.length:=i.length_eq;refine{.ref (s.heap.objs.size+1),_,I.laid (t':=s.toks) (a:=s.heap.objs.size+1) (o:=.lst ((sortI ns).map V.int)) (λb o e=>sortedAll_old e) (Fs _) ?_,rfl,q _ (I.hok.fresh (Fs _))};refine{by rw[Ai,d];exact BB (dD 'o'),f.toList,e,kn l,n}
def GP:List D->Option D
 | [.lst l]=>(Et l).bind λns=>if ns.length<64 then some (.lst ((sortI ns).map D.int)) else none
 | _=>none
theorem ko{K:FG}{A:Addr->Prop}{H:Hp}:∀ns:List Int,aa K A H (ns.map D.int) 'k'
 | []=>aa.nil.mpr rfl
 | n::ns=>aa.cons.mpr {_,_,rfl,Is.int_iff.mpr rfl,ko ns}
theorem kq:∀ns:List Int,D.immL (ns.map D.int)=true
 | []=>rfl
 | n::ns=>kq ns
open H in
def xL{K:FG}(e:c.K=K):Ck c (λs H Q=>∃(a:Addr) (ns:List Int),s=[.ref a]/\AY K H a 'k'/\ns.length<64/\∀p,H p=none->Q (.ref p) (Ag H p (.lst ((sortI ns).map V.int)))) GP:=by
 subst e;intro l h H f d Q o z e q;delta GP at e;split at e
 ·rename_i m
  cases h:Et m with
  | none=>rw[h] at e;cases e
  | some ns=>
    rw[h] at e;have e:(if ns.length<64 then some (D.lst ((sortI ns).map D.int)) else none)=some d:=e;split at e
    ·rename_i f
     cases e;obtain⟨v,r,j,l,m⟩:=aa.cons.mp z;obtain⟨a,us,d,_,i,n⟩:=Is.lst_iff.mp l;rw[aa.nil.mp m,d] at j;rw[kj h n] at i;exact{a,ns,j,.of i,f,λp d=>q _ _ (Ah.laid d) (aL o d) (AB.lst o d (λ_ n=>n) (kq _) (ko _))}
    ·cases e
 ·cases e
def ES:List D->Option (List (List Al×D))
 | []=>some []
 | .tup [k,v]::l=>if v.imm=true then (AN k).bind λkk=>(ES l).map λr=>(kk,v)::r else none
 | _=>none
def CK(ps:List (List Al×D))(acc:List D×List D):List D×List D:=ps.foldl (λacc p=>AV p.1 p.2 acc.1 acc.2) acc
def Ix:List D->Option D
 | [.lst l]=>if l.length<sizeLine then (ES l).map λps=>.dct (.non::(CK ps ([],[])).1) (CK ps ([],[])).2 else none
 | _=>none
open H in
theorem kr{K:FG}{A:Addr->Prop}{H:Hp}:∀{l:List D} {j:List V} {i:List (List Al×D)},ES l=some i->aa K A H l j->
 ∃f:List (List Al×V),Fw H j f/\f.map (·.1)=i.map (·.1)/\aa K A H (i.map (·.2)) (f.map (·.2))/\D.immL (i.map (·.2))=true/\f.length=l.length
 | [],j,i,e,h=>by
   cases e;rw[aa.nil.mp h];exact{[],rfl,rfl,aa.nil.mpr rfl,rfl,rfl}
 | d::l,j,i,e,h=>by
   unfold ES at e;split at e
   ·rename_i d
    cases d
   ·rename_i k v i d
    cases d;split at e
    ·rename_i u
     cases d:AN k with
     | none=>rw[d] at e;cases e
     | some m=>
       cases i:ES l with
       | none=>rw[d,i] at e;cases e
       | some r=>
         rw[d,i] at e;cases e;obtain⟨w,n,v,l,p⟩:=aa.cons.mp h;obtain⟨t,us,o,n,r⟩:=Is.tup_iff.mp l;obtain⟨h,q,s,x,z⟩:=aa.cons.mp r;obtain⟨h,y,A,q,l⟩:=aa.cons.mp z;obtain⟨b,y,r,_⟩:=dW d x;obtain⟨f,g1,g2,g3,g4,d⟩:=kr i p;refine{(m,h)::f,?_,by simp[g2],aa.cons.mpr {_,_,rfl,q,g3},by simp[D.immL,u,g4],by simp[d]};rw[v];refine{t,b,m,h,f,rfl,o,?_,r,g1};rw[n,s,A,y,aa.nil.mp l]
    ·cases e
   ·cases e
theorem ku{K:FG}{A:Addr->Prop}{H:Hp}:∀{f:List (List Al×D)} {i:List (List Al×V)},i.map (·.1)=f.map (·.1)->aa K A H (f.map (·.2)) (i.map (·.2))->D.immL (f.map (·.2))=true->
 ∀{kk:List (List Al)} {vs:List D} {us:List V},kk.length=us.length->aa K A H vs us->D.immL vs=true->
 ∃(j:List (List Al)) (l:List V),(CK f (kk.map AD,vs)).1=j.map AD/\aa K A H (CK f (kk.map AD,vs)).2 l/\j.length=l.length/\FR (kk.zip us) i=j.zip l/\D.immL (CK f (kk.map AD,vs)).2=true
 | [],i,e,h,m,kk,vs,us,u,y,mv=>by
   have:i=[]:=by simpa using e
   subst this;exact⟨kk,us,rfl,y,u,rfl,mv⟩
 | (k,d)::f,i,e,h,m,kk,vs,us,u,y,mv=>by
   cases i with
   | nil=>cases e
   | cons q i=>
     obtain⟨k',v⟩:=q;obtain⟨w,r,s,I,M⟩:=aa.cons.mp h;have s:v::i.map (·.2)=w::r:=s;cases s;have o:k'=k/\i.map (·.1)=f.map (·.1):=by simpa using e
     obtain⟨rfl,o⟩:=o;have m':d.imm=true/\D.immL (f.map (·.2))=true:=by simpa [D.immL] using m
     obtain⟨n,z,g1,g2,g3,g4⟩:=gE (k:=k') I u y;have G:=e7 (k:=k') (ks:=kk.map AD) m'.1 mv;obtain⟨p,x,B,f2,C,N,E⟩:=ku o M m'.2 (kk:=n) (vs:=(AV k' d (kk.map AD) vs).2) g3 g2 G;have J:CK ((k',d)::f) (kk.map AD,vs)=CK f (n.map AD,(AV k' d (kk.map AD) vs).2):=by
      show CK f (AV k' d (kk.map AD) vs)=_;rw[<-g1]
     rw[J];refine{p,x,B,f2,C,?_,E};show FR (Bp (kk.zip us) k' v) i=_;rw[g4];exact N
open H in
def xM:Ck c (λs H Q=>∃(a:Addr) (vs:List V) (f:List (List Al×V)),s=[.ref a]/\H a=some (.lst vs)/\Fw H vs f/\f.length<sizeLine/\∀d,H d=none->Q (.ref d) (Ag H d (.dT (FR [] f)))) Ix:=by
 intro l vs H h d Q j z e q;delta Ix at e;split at e
 ·rename_i m
  split at e
  ·rename_i n
   cases d:ES m with
   | none=>rw[d] at e;cases e
   | some f=>
     rw[d] at e;cases e;obtain⟨v,r,h,m,l⟩:=aa.cons.mp z;obtain⟨a,us,i,_,p,o⟩:=Is.lst_iff.mp m;rw[aa.nil.mp l,i] at h;obtain⟨m,g1,g2,g3,g4,i⟩:=kr d o;refine{a,us,m,h,p,g1,by rw[i];exact n,λp h=>?_};obtain⟨kk,d,i,f2,o,l,n⟩:=ku g2 g3 g4 (kk:=[]) (vs:=[]) (us:=[]) rfl (aa.nil.mpr rfl) rfl;have i:(CK f ([],[])).1=kk.map AD:=i;have f2:aa c.K 'w' H (CK f ([],[])).2 d:=f2;have l:FR [] m=kk.zip d:=l;refine q _ _ (Ah.laid h) (aL j h) (Is.dct_iff.mpr {p,d,rfl,{bH j h,h},aa.ofImm n (f2.ext (Ah.laid h) j λ_ n=>n),.inr {kk,by rw[i],o,?_}});rw[aw,l]
  ·cases e
 ·cases e
def KP(i j k:Nat)(ta:TA):TS:=λD Y H=>ta Y H λvs H1=>∃u v w,vs=[u,v,w]/\D.nx (((Y.set i (some u)).set j (some v)).set k (some w)) H1
def rc{i j k:Nat}{x y z:Str}{kt k2 pt2}(Q:X.calm=true)(E:X.N.Nodup)(Z:X.N[i]?=some x)(P:X.N[j]?=some y)(N:X.N[k]?=some z)(A:i≠j)(B:i≠k)(C:j≠k)(J:X.env.scope.names.lookup x=some .local)(G:X.env.scope.names.lookup y=some .local)(M:X.env.scope.names.lookup z=some .local)(e:PA X [a,b,d] ta)(T:swappedStores [.Tuple [.Name x px,.Name y py,.Name z pz] kt pt] (.Tuple [a,b,d] k2 pt2) X.env=pure (some [x,y,z]))(f:autoParam (swapsWithSole [.Tuple [.Name x px,.Name y py,.Name z pz] kt pt] (.Tuple [a,b,d] k2 pt2) pos.line X.env=pure false) uR) :
 PS X (.Assign [.Tuple [.Name x px,.Name y py,.Name z pz] kt pt] (.Tuple [a,b,d] k2 pt2) pos) (KP i j k ta):=by
 intro o s Y H D I h;rw[exec_Assign_arm];refine Ac (wpAny_standAt ?_);rw[f];refine Ac (Ao ?_);rw[if_neg 'z'];refine Ac (Tuple_ (ai (e _ o s Y H _ I h) λus f hI122=>?_));obtain⟨d,H1,I1,e,r⟩:=hI122;obtain⟨u,v,w,n,r⟩:=r;subst n;obtain⟨h,d,l,rfl,R,U,s⟩:∃h d l,us=[h,d,l]/\Am u h/\Am v d/\Am w l:=by
  cases e with
  | cons p q=>
    cases q with
    | cons p' O=>
      cases O with
      | cons e m=>cases m;exact{_,_,_,rfl,p,p',e}
 refine wpAny_newObj_type ?_ (by show 3<=sizeLine;decide);have I2:Ab X o Y H1 { f with heap:=f.heap.push { cls:=.type "tuple",data:=.seq [h,d,l].toArray } }:=I1.kept (t':=f.toks) λb o e=>AJ _ e
 rw[T];refine Ac (Ao ?_);show wpAny 'e' X.A (do rule "assign.swapped-stores";let items <-unpackItems (.ref f.heap.objs.size) 3 none;assignInOrder [λv=>bindName X.env z v,λv=>bindName X.env y v,λv=>bindName X.env x v] items.reverse;pure Flow.next) _ _ _;refine Ac (aZ (Ac (unpackItems_tuple (items:=#[h,d,l]) (I.ok.hd Q) (IsTup.new f.heap _) λh' m=>?_)));have I3:=I2.kept (h':=h') (t':=f.toks) λb o e=>m b o (Br (Heap.lt_size e)) e
 show wpAny _ _ (assignInOrder [λv=>bindName X.env z v,λv=>bindName X.env y v,λv=>bindName X.env x v] [l,d,h] >>= λ_=>pure Flow.next) _ _ _;refine Ac (assignInOrder_cons (wpAny_bindName (cj I3 E N (.inl M) s (λd I4=>?_) (.inr M))));refine assignInOrder_cons (wpAny_bindName (cj I4 E P (.inl G) U (λd I5=>?_) (.inr G)));refine assignInOrder_cons (wpAny_bindName (cj I5 E Z (.inl J) R (λd I6=>assignInOrder_nil (Ao ?_)) (.inr J)));refine{_,H1,?_,r};have e:((Y.set k (some w)).set j (some v)).set i (some u)=((Y.set i (some u)).set j (some v)).set k (some w):=by
  have n:(Y.set k (some w)).set j (some v)=(Y.set j (some v)).set k (some w):=List.set_comm _ _ (Ne.symm C);have d:∀τ:St,(τ.set k (some w)).set i (some u)=(τ.set i (some u)).set k (some w):=λτ=>List.set_comm _ _ (Ne.symm B)
  have f:(Y.set j (some v)).set i (some u)=(Y.set i (some u)).set j (some v):=List.set_comm _ _ (Ne.symm A);rw[n,d,f]
 rw[e] at I6;exact I6
def JL(S:Type)(i j k:Nat)(f:Ba S):Ay S:=λZ st=>(f Z st).bind λl st1=>match l with
 | [d,e,h]=>(Au (put Z i d) st1).bind λZ1 st2=>(Au (put Z1 j e) st2).bind λZ2 st3=>(Au (put Z2 k h) st3).bind λZ3 st4=>.ok (.nx Z3) st4
 | _=>.bad
open H in
def xN{i j k:Nat}{x y z:Str}{kt h pt2}(q:X.calm=true)(B:X.N.Nodup)(C:X.N[i]?=some x)(o:X.N[j]?=some y)(n:X.N[k]?=some z)(e:i≠j)(l:i≠k)(m:j≠k)(v:X.env.scope.names.lookup x=some .local)(r:X.env.scope.names.lookup y=some .local)(A:X.env.scope.names.lookup z=some .local)(p:DB X c [a,b,d] f)(u:swappedStores [.Tuple [.Name x px,.Name y py,.Name z pz] kt pt] (.Tuple [a,b,d] h pt2) X.env=pure (some [x,y,z]))(s:autoParam (swapsWithSole [.Tuple [.Name x px,.Name y py,.Name z pz] kt pt] (.Tuple [a,b,d] h pt2) pos.line X.env=pure false) uR) :
 DS X c (.Assign [.Tuple [.Name x px,.Name y py,.Name z pz] kt pt] (.Tuple [a,b,d] h pt2) pos) (JL S i j k f):=
 (rc q B C o n e l m v r A p u s).imp λD Y H hI41=>by
  obtain⟨Z,d,R,o,w⟩:=hI41;refine{Z,d,R,o,ak (ae.mp w) (λl m q f H1 e d s=>?_) λx m q l e f=>q l (e.f0 R) f};split at q
  ·rename_i n y f
   obtain⟨v,r,p,z,m⟩:=aa.cons.mp s;obtain⟨v',r',u,m,f⟩:=aa.cons.mp m;obtain⟨l,r,s,f,x⟩:=aa.cons.mp f;rw[u,s,aa.nil.mp x] at p;obtain⟨s,r,q⟩:=au.mp (ae.mp q);obtain⟨s,p2,q⟩:=au.mp (ae.mp q);obtain⟨s,A,q⟩:=au.mp (ae.mp q);obtain⟨u,rfl⟩:=cu r;obtain⟨B,rfl⟩:=cu p2;obtain⟨x,rfl⟩:=cu A;have s:=(R.ext o e).setB u z;have r:Bg (Av c Y Z) (Av c (Y.set i (some v)) (Z.set i (.bor n))) H1 H1:=Bj.keepT (R.ext o e) d bc;have R2:=s.setB B (m.mono r);have h:Bg (Av c (Y.set i (some v)) (Z.set i (.bor n))) (Av c ((Y.set i (some v)).set j (some v')) ((Z.set i (.bor n)).set j (.bor y))) H1 H1:=Bj.keepT s d bc;have i:=R2.setB x ((f.mono r).mono h);exact{v,v',l,p,q _ _ ((Ah.frm e).trans (bc.trans (bc.trans bc))) d i}
  ·exact q.elim
def Iy{S:Type}{W:Wd S}(c:Dx W):List Str->List (Fn S)->List (TE×TE)
 | k::ks,f::fs=>(tC (.str k),tD c .R f)::Iy c ks fs
 | _,_=>[]
def GQ(S:Type):List (Fn S)->Ba S
 | []=>Gb S
 | f::fs=>Cu S f (GQ S fs)
theorem kx:∀(p:List Str) (m:List (Fn S)) {Y:St} {H:Hp} {Z:Ae} {o:S} {Q:List (V×V)->Hp->Prop},p.length=m.length->Ax c H Y Z->W.ok o H->
 Aa (GQ S m Z o) (λl h=>∀r i,Ah W H i->W.ok h i->aa c.K 'w' i l r->Q ((p.zip r).map λC=>(V.str C.1,C.2)) i) (λx h=>∀i,Ah W H i->W.ok h i->c.Ex x h i)->GE (Iy c p m) Y H Q
 | [],[],Y,H,Z,o,Q,_,R,u,w=>w [] H Ah.refl u (aa.nil.mpr rfl)
 | k::p,f::m,Y,H,Z,o,Q,n,R,u,w=>by
   refine{Z,o,R,u,ak (ae.mp w) (λd B q v H1 e s z=>?_) λx B q=>q};refine kx p m (by simpa using n) (R.ext u e) s (ak (ae.mp q) (λl A q r H2 y j E=>?_) λx A q H2 y j=>q H2 (e.trans y) j);exact q (v::r) H2 (e.trans y) j (aa.cons.mpr {v,r,rfl,z.toR.ext y s,E})
 | [],_::_,_,_,_,_,_,n,_,_,_=>by cases n
 | _::_,[],_,_,_,_,_,n,_,_,_=>by cases n
def Gf(x:Str):List Str->List D->Option D
 | k::ks,v::vs=>if k=x then some v else Gf x ks vs
 | _,_=>none
theorem kz:∀(f d:List (Aw×V)),(d.map (·.1)++f.map (·.1)).Nodup->E4 d f=d++f
 | [],d,_=>by show d=d++[];simp
 | (k,v)::f,d,h=>by
   have j:∀p∈d,p.1≠k:=λp i e=>by
    have:=(FH.mp h).2.2 p.1 (List.mem_map_of_mem i) k 'd';exact this e
   have e:Bp d k v=d++[(k,v)]:=by
    delta Bp;rw[if_neg];intro z;obtain⟨p,i,l⟩:=List.any_eq_true.mp z;exact j p i (by simpa using l)
   show E4 (Bp d k v) f=_;rw[e,kz f (d++[(k,v)]) (by simpa using h)];simp
instance DKV(X:Cx){S:Type}{W:Wd S}(c:Dx W)(pos:Pos)(keys:List (Option Expr))(values:List Expr)(ks:List Str)(fs:List (Fn S)):Prop:=PPs X pos keys values (Iy c ks fs)/\ks.length=fs.length
def xO:DKV X c pos [] [] [] ([]:List (Fn S)):=⟨gn,rfl⟩
def xP{k:Str}{j}(e:DE X c .R v f)(h:DKV X c pos keys values d fs):DKV X c pos (some (.Constant (.str k) j p)::keys) (v::values) (k::d) (f::fs):=
 {eT bX e h.1,by simp[h.2]}
def JM(S:Type)(ks:List Str)(fs:List (Fn S))(fk:Fn S):Fn S:=λZ st=>(GQ S fs Z st).bind λl st1=>(fk Z st1).bind λd st2=>match d with
 | .str x=>if D.immL l=true then Au (Gf x ks l) st2 else .bad
 | _=>.bad
theorem kA{K:FG}{A:Addr->Prop}{H:Hp}{x:Str}:∀{i:List Str} {l:List D} {j:List V} {d:D},Gf x i l=some d->aa K A H l j->D.immL l=true->∃v,Cj ((i.zip j).map λf=>((Sum.inr f.1:Aw),f.2)) (Sum.inr x:Aw)=some v/\Is K A H d v/\d.imm=true
 | [],l,j,d,e,_,_=>by cases l<;>cases e
 | k::i,[],j,d,e,_,_=>by cases e
 | k::i,y::l,j,d,e,h,m=>by
   obtain⟨v,r,d,n,o⟩:=aa.cons.mp h;subst d;have m':y.imm=true/\D.immL l=true:=by simpa [D.immL] using m
   unfold Gf at e;by_cases d:k=x
   ·rw[if_pos d] at e;cases e
    subst d;exact{v,cC rfl,n,m'.1}
   ·rw[if_neg d] at e
    obtain⟨v',g1,g2,g3⟩:=kA e o m'.2;refine{v',?_,g2,g3};show Cj (((Sum.inr k:Aw),v)::(i.zip r).map λf=>((Sum.inr f.1:Aw),f.2)) (Sum.inr x:Aw)=_;rw[cD (λz=>d (Sum.inr.inj z))];exact g1
theorem kB:∀{d:List Str} {i:List V},d.Nodup->((d.zip i).map ((λx=>x.1) ∘ λf=>((Sum.inr f.1:Aw),f.2))).Nodup
 | [],_,_=>by simp
 | k::d,[],_=>by simp
 | k::d,v::i,h=>by
   obtain⟨m,l⟩:=Fp.mp h;show ((Sum.inr k:Aw)::(d.zip i).map ((λx=>x.1) ∘ λf=>((Sum.inr f.1:Aw),f.2))).Nodup;refine Fp.mpr {λn=>?_,kB l};obtain⟨⟨a,b⟩,j,e⟩:=BF.mp n;have e:a=k:=Sum.inr.inj e;subst e;exact m (List.of_mem_zip j).1
open H in
def xQ(hu:X.A.units+2<cLine)(h:DKV X c dpos keys values j fs)(M:keys.all (·.isSome)=true)(hl:keys.length=values.length)(h0:keys≠[])(U:keys.length<=15)(hks:j.length<=15)(hnd:j.Nodup)(hk:DE X c ga k fk)(hs:HZ k):DE X c g (.Subscript (.Dict keys values dpos) k pos) (JM S j fs fk):=
 (dJ hu (ju h.1 M hl h0 U) hk hs).imp λY H Q hI42=>by
  obtain⟨Z,st,R,T,w⟩:=hI42;intro p I;have np:¬W.mv p:=bH T I;refine kx j fs h.2 (R.ext T (Ah.laid I)) (aL T I) (ak (ae.mp w) (λl B q G H2 O r z2=>?_) λx B q H2 O r=>q H2 ((Ah.laid I).trans O) r);have E:H2 p=some (.dK []):=O p _ aw np;refine{E,(j.zip G).map λi=>((Sum.inr i.1:Aw),i.2),by rw[Df];rfl,by rw[Ai,List.length_zip];omega,?_};have mk:E4 [] ((j.zip G).map λi=>((Sum.inr i.1:Aw),i.2))=(j.zip G).map λi=>((Sum.inr i.1:Aw),i.2):=by
   rw[kz _ []]
   ·rfl
   ·show (((j.zip G).map λi=>((Sum.inr i.1:Aw),i.2)).map (·.1)).Nodup
    rw[Df];exact kB hnd
  rw[mk];have P:Ah W H (Ag H2 p (.dK ((j.zip G).map λi=>((Sum.inr i.1:Aw),i.2)))):=λb o hb nm=>by
   have N:b≠p:=ay hb I;rw[ah N];exact O b o (by rw[ah N];exact hb) nm
  have J:=bY (o:=.dK ((j.zip G).map λi=>((Sum.inr i.1:Aw),i.2))) r np E;have R3:=R.ext T P;refine{Z,B,R3,J,ak (ae.mp q) (λd st2 q v s C n z4=>?_) λx st2 q s C n=>q s (P.trans C) n};split at q
  ·rename_i x
   split at q
   ·rename_i im
    obtain⟨dd,e5,q⟩:=au.mp q;have k1:Bg (λ_=>False) (λb=>¬W.mv b/\H b=Option.none) H2 s:={λb u e sy=>by
     have N:b≠p:=λz=>by
      subst z;rw[E] at e;cases e;rcases sy with⟨_,y⟩ | ⟨_,_,y⟩<;>cases y
     refine C b _ (by rw[ah N];exact e) λm=>?_
     obtain⟨o',h',n1,n2⟩:=W.live B H2 b r m;rw[e] at h';cases h';rcases sy with⟨y,z⟩ | ⟨y1,y2,z⟩
     ·exact n1 y z
     ·exact n2 y1 y2 z,λb o f=>f.elim}
    have z3:aa c.K (λ_=>False) H2 l G:=aa.ofImm im z2;obtain⟨v',g1,g2,g3⟩:=kA e5 (z3.mono k1) im;have zx:Is c.K 'w' s (.str x) v:=z4.toR;refine{p,v',rfl,?_,q v' s (P.trans C) n ((AB.val (R3.ext J C) (show AB c s s dd v' from Is.ofImm g3 g2) g).back (P.trans C) n)};rw[Is.str_iff.mp zx,<-g1];exact BS.k (k:=(Sum.inr x:Aw)) (C p _ aw np)
   ·exact q.elim
  ·exact q.elim
def xR{A:Around}{k:Nat}(d:AT k A):A.in1.units+2<cLine:=by
 have:=d.units;show A.units+1+2<cLine;omega
def xS(f:X.A.units+2<cLine)(e:DE X c ga a fa)(d:DE X c gb b fb)(h:autoParam (behindInMarks .NotIn b=false) uR):DT X c (.Compare a [.NotIn] [b] pos) (fB S (f2 S (Dy true) fa fb)):=
 (iS (jr f e d) h).imp λY H Q q=>by
  have d:tB (tD c .R (f2 S (Dy true) fa fb)) Y H Q:=eU q;exact j5 (ga:=ga) (gb:=gb) d
end
abbrev Dr:=List Int×Int
def Ej(l:Addr)(t:Int):List (Aw×V):=[(Sum.inr "cells",.ref l),(Sum.inr "turn",.int t)]
instance WdS(p l:Addr):Wd Dr where
 ok:=λst H=>H p=some (.dK (Ej l st.2))/\H l=some (.lst (st.1.map V.int))/\st.1≠[]/\st.1.length<=63/\0<=st.2
 mv:=λb=>b=p\/b=l
 h:=.ref p
 stay:=λst H H' ⟨a,b,c⟩ k _=>{k p _ (.inl rfl) a,k l _ (.inr rfl) b,c}
 live:=λst H b hI43 m=>by
  obtain⟨a,c,_⟩:=hI43;rcases m with m | m
  ·subst m;exact{_,a,(λu z=>by cases z),λob u z=>by cases z}
  ·subst m;exact{_,c,(λu z=>by cases z),λob u z=>by cases z}
def Gg(cell turn:Int):Int:=(cell % 2147483629+turn*turn*7919+11)*48271 % 2147483647
def JN(cell turn:Int):Int:=Gg cell turn*Gg cell turn % 2147483587
def JO(cell turn:Int):Int:=(JN cell turn+turn*104729)*39373 % 2147483629 / 64
def Cf(st:Dr):Nat:=((st.2+1) % (st.1.length:Int)).toNat
def CL(l:List D)(st:Dr):Ar Dr D:=match l with
 | [.int many]=>if 0<many/\many<1073741824/\st.2<2 ^ 40 then
  (if 1000000000000000000<=st.1.getD (Cf st) 0 then .ok (.int (st.1.getD (Cf st) 0 % many)) (st.1.set (Cf st) (st.1.getD (Cf st) 0 / many),st.2+1)
   else .ok (.int (JO (st.1.getD (Cf st) 0) (st.2+1) % many)) (st.1,st.2+1)) else .bad
 | _=>.bad
def gH:¬((Sum.inr ("cells" : Str)):Aw)=Sum.inr ("turn" : Str):=by decide +kernel
def re{t:Int}:Cj (Ej l t) (Sum.inr "cells" : Aw)=some (.ref l):=by
 delta Ej;exact cC rfl
def kC{t:Int}:Cj (Ej l t) (Sum.inr "turn" : Aw)=some (.int t):=by
 delta Ej;rw[cD (λz=>gH z)];exact cC rfl
def rf{t u:Int}:Bp (Ej l t) (Sum.inr "turn" : Aw) (.int u)=Ej l u:=by
 delta Bp;rw[dG,kC];refine(if_pos (show (some (V.int t)).isSome=true from rfl)).trans ?_;delta Ej;simp only[BI,List.map_nil];rw[if_neg (λz=>gH z)];simp
structure Bn(mg:Str->Option Value):Prop where
 len:mg "len" = none
 divmod:mg "divmod" = none
 list:mg "list" = none
 tuple:mg "tuple" = none
 int:mg "int" = none
 bool:mg "bool" = none
 str:mg "str" = none
 dict:mg "dict" = none
 isinstance:mg "isinstance" = none
 all:mg "all" = none
 any:mg "any" = none
 sum:mg "sum" = none
 zip:mg "zip" = none
 enumerate:mg "enumerate" = none
 range:mg "range" = none
 sorted:mg "sorted" = none
 min:mg "min" = none
 max:mg "max" = none
 abs:mg "abs" = none
 reversed:mg "reversed" = none
 set:mg "set" = none
def Fa(ns:List Int):List Int:=if ns=[] then [7] else ns
def Iz(K:FG):Sp:=λvs H Q _=>∃(a:Addr) (ns:List Int),vs=[.ref a]/\AY K H a 'k'/\ns.length<=63/\
 ∀(p l:Addr) (H':Hp),Ci H H'->H p=none->H l=none->H' p=some (.dK (Ej l 0))->H' l=some (.lst ((Fa ns).map V.int))->Q (.ref p) H'
def rg{ns:List Int}(h:ns.length<=63):Eo 'k' none (some 63)=ns.map V.int:=by
 delta Eo;have e:HT.sIx 'k'.length 'k'.length (some 63)='k'.length:=by
  have:HT.sIx 'k'.length 'k'.length (some ((63:Nat):Int))=min 63 'k'.length:=HT.sIx_nat _ _ _;rw[show ((63:Nat):Int)=(63:Int) from rfl] at this;rw[this,Ai];omega
 rw[e];show ('k'.drop 0).take ('k'.length-0)=_;rw[List.drop_zero,Nat.sub_zero,CC]
theorem kD{K:FG}{A:Addr->Prop}{H:Hp}:∀ns:List Int,aa K A H (ns.map D.int) 'k'
 | []=>aa.nil.mpr rfl
 | n::ns=>aa.cons.mpr {_,_,rfl,Is.int_iff.mpr rfl,kD ns}
theorem kE:∀ns:List Int,D.depL (ns.map D.int)<=1
 | []=>by simp[D.depL]
 | n::ns=>by
   have:=kE ns;simp only[BI,D.depL,D.dep];omega
def ri(ns:List Int):D.dep (.lst (ns.map D.int))<=30:=by
 have:=kE ns;simp only[D.dep];omega
def rj:E4 [] [((Sum.inr "cells" : Aw),.ref l),((Sum.inr "turn" : Aw),.int 0)]=Ej l 0:=by
 show Bp (Bp [] (Sum.inr "cells" : Aw) (.ref l)) (Sum.inr "turn" : Aw) (.int 0)=_;have a:Bp [] (Sum.inr "cells" : Aw) (.ref l)=[((Sum.inr "cells" : Aw),.ref l)]:=rfl;rw[a];delta Bp;rw[dG,cD (λz=>gH z)];rfl
instance spLaw(K:FG):Sp:=λvs H Q _=>∃(a:Addr) (ns:List Int),vs=[.ref a]/\AY K H a 'k'/\ns.length<=63/\∀H',Q (.bl true) H'
def CH(n:Nat):Ae:=.no::.hnd::List.replicate (n-2) .no
instance exL{X:Cx}(K:FG)(F:Ay Dr):TS:=λD Y H=>∃p l,tS (DL (WdS p l) K (λ_=>none)) F D Y H
def rm{X:Cx}{K:FG}{a:List Stmt}{F:Ay Dr}(h:∀p l,Ce X (DL (WdS p l) K (λ_=>none)) a F):CP X a (exL (X:=X) K F):=λa s Y H D I ⟨p,l,q⟩=>h p l a s Y H D I q
def rn{K:FG}{H:Hp}{p l a:Addr}{m:Nat}:Ax (DL (WdS p l) K (λ_=>none)) H (some (.ref a)::some (.ref p)::List.replicate m none) (CH (m+2)) where
 len:=by simp[CH]
 frame:=λb o e=>by cases e
 slot:=λi s h=>by
  delta CH at h
  match i with
  | 0=>cases h;trivial
  | 1=>cases h;rfl
  | i+2=>
    have h:(List.replicate (m+2-2) Sl.no)[i]?=some s:=by simpa using h
    rw[Hc] at h;split at h
    ·cases h;trivial
    ·cases h
 avl:=λb h=>h.elim
 uniq:=λi j b d e a c _ _=>by
  delta CH at a
  match i with
  | 0=>cases a
  | 1=>cases a
  | i+2=>
    have a:(List.replicate (m+2-2) Sl.no)[i]?=some (.own d):=by simpa using a
    rw[Hc] at a;split at a
    ·cases a
    ·cases a
section
variable{S α β:Type}{E:AG->S->Prop}{st:S}
open H in
def aJ(h:∀d a,Aa (k d a) Q E↔P d a):Aa (r.bind k) Q E↔Aa r P E:=by
 rw[ae];exact iff_of_eq (congrArg (λz=>Aa r z E) (funext λd=>funext λa=>propext (h d a)))
def dX{P:α->Prop}{a:α}{R:Prop}(k:R↔P a):R↔∃b,some a=some b/\P b:={λq=>{a,rfl,k.mp q},λh=>by obtain⟨_,e,q⟩:=h;cases e;exact k.mpr q}
def dY{P:α->Prop}:False↔∃b,(none:Option α)=some b/\P b:={False.elim,λh=>by obtain⟨_,e,q⟩:=h;cases e}
def gI{P:Bool->Prop}{a:Bool}{R:Prop}(k:R↔P a):R↔∃b,D.bl a=.bl b/\P b:={λq=>{a,rfl,k.mp q},λh=>by obtain⟨_,e,q⟩:=h;cases e;exact k.mpr q}
def ro{P:Int->Prop}{a:Int}{R:Prop}(k:R↔P a):R↔∃b,D.int a=.int b/\P b:={λq=>{a,rfl,k.mp q},λh=>by obtain⟨_,e,q⟩:=h;cases e;exact k.mpr q}
def rq{P:Str->Prop}{a:Str}{R:Prop}(k:R↔P a):R↔∃b,D.str a=.str b/\P b:={λq=>{a,rfl,k.mp q},λh=>by obtain⟨_,e,q⟩:=h;cases e;exact k.mpr q}
def bZ{c:β->α}{d:α}{P:β->Prop}(h:∀b,d=c b->False):False↔∃b,d=c b/\P b:={False.elim,λg=>by obtain⟨b,e,_⟩:=g;exact h b e}
def gJ{γ:Type}{c:β->α}{d:α}{P:β->γ->Prop}(h:∀b,d=c b->False):False↔∃b g,d=c b/\P b g:={False.elim,λg=>by obtain⟨b,_,e,_⟩:=g;exact h b e}
def gK{γ:Type}{P:Int->γ->Prop}{a:Int}{R:Prop}(k:R↔∃g,P a g):R↔∃b g,D.int a=.int b/\P b g:={λh=>by obtain⟨g,q⟩:=k.mp h;exact⟨a,g,rfl,q⟩,λh=>by obtain⟨_,g,e,q⟩:=h;cases e;exact k.mpr ⟨g,q⟩}
def ff{c:Prop}[Decidable c]:Aa (if c then r else .bad) Q E↔c/\Aa r Q E:=by
 by_cases h:c
 ·rw[if_pos h];exact{λq=>⟨h,q⟩,λq=>q.2}
 ·rw[if_neg h];exact{λq=>q.elim,λq=>h q.1}
def fg:Aa ((Au o st).bind λa b=>Ar.ok (Fl.nx a) b) Q E↔∃a,o=some a/\Q (.nx a) st:=by rw[ae,au];exact Iff.rfl
def fi{o:Option Ae}{k:Ae->S->Ar S β}{Q:β->S->Prop}{P:Ae->Prop}(h:∀a,Aa (k a st) Q E↔P a):Aa ((Au o st).bind k) Q E↔∃a,o=some a/\P a:=by
 rw[ae,au];exact exists_congr λa=>and_congr Iff.rfl (h a)
end
def rz{d:D}{b:Bool}:d.bool?=some b↔d=.bl b:=by
 cases d with
 | bl a=>exact{λe=>congrArg D.bl (Option.some.inj e),λe=>congrArg D.bool? e}
 | _=>exact{λe=>(by cases e),λe=>(by cases e)}
def int_iff{d:D}{b:Int}:d.int?=some b↔d=.int b:=by
 cases d with
 | int a=>exact{λe=>congrArg D.int (Option.some.inj e),λe=>congrArg D.int? e}
 | _=>exact{λe=>(by cases e),λe=>(by cases e)}
section
variable{S:Type}{E:AG->S->Prop}{Z:Ae}{st:S}
section
variable{Q:D->S->Prop}{f f1 f2' f3 fk:Fn S}
def wp_fAndV:Aa (Im S f1 f2' Z st) Q E↔Aa (f1 Z st) (λd a=>∃b,d=.bl b/\(if b=true then Aa (f2' Z a) Q E else Q (.bl false) a)) E:=aJ λd a=>by
 cases d with
 | bl b=>cases b<;>exact gI Iff.rfl
 | _=>exact bZ λb e=>by cases e
def wp_fOrV:Aa (JB S f1 f2' Z st) Q E↔Aa (f1 Z st) (λd a=>∃b,d=.bl b/\(if b=true then Q (.bl true) a else Aa (f2' Z a) Q E)) E:=aJ λd a=>by
 cases d with
 | bl b=>cases b<;>exact gI Iff.rfl
 | _=>exact bZ λb e=>by cases e
def wp_fNotV:Aa (JC S f Z st) Q E↔Aa (f Z st) (λd a=>∃b,d=.bl b/\Q (.bl (!b)) a) E:=aJ λd a=>by
 cases d with
 | bl b=>exact gI Iff.rfl
 | _=>exact bZ λb e=>by cases e
def wp_fNeg:Aa (JE S f Z st) Q E↔Aa (f Z st) (λd a=>∃i,d=.int i/\Q (.int (-i)) a) E:=aJ λd a=>by
 cases d with
 | int b=>exact ro Iff.rfl
 | _=>exact bZ λb e=>by cases e
def wp_pSo{Q:Option Int->S->Prop}:Aa (pSo S f Z st) Q E↔Aa (f Z st) (λd a=>∃i,d=.int i/\Q (some i) a) E:=aJ λd a=>by
 rw[ae,au];exact exists_congr λi=>and_congr int_iff Iff.rfl
def wp_fB{Q:Bool->S->Prop}:Aa (fB S f Z st) Q E↔Aa (f Z st) (λd a=>∃b,d=.bl b/\Q b a) E:=aJ λd a=>by
 rw[au];exact exists_congr λi=>and_congr rz Iff.rfl
def wp_fDisp{c:List Str}{a:List (Fn S)}:Aa (JM S c a fk Z st) Q E↔Aa (GQ S a Z st) (λl b=>Aa (fk Z b) (λd a=>∃x,d=.str x/\D.immL l=true/\Aa (Au (Gf x c l) a) Q E) E) E:=aJ λl b=>aJ λd a=>by
 cases d with
 | str x=>exact rq ff
 | _=>exact bZ λb e=>by cases e
def rA{r:Option D}{d a:Ar S D}:Aa (match r with
 | some (.bl true)=>d
 | some (.bl false)=>a
 | _=>.bad) Q E↔∃b,r=some (.bl b)/\(if b=true then Aa d Q E else Aa a Q E):=by
 cases r with
 | none=>exact bZ (c:=λb=>some (D.bl b)) λb e=>by cases e
 | some d=>cases d with
   | bl b=>cases b<;>exact{λq=>{_,rfl,q},λh=>by obtain⟨_,e,q⟩:=h;cases e;exact q}
   | _=>exact bZ (c:=λb=>some (D.bl b)) λb e=>by cases e
def wp_fChain{o o':D->D->Option D}:Aa (GK S o o' f1 f2' f3 Z st) Q E↔Aa (f1 Z st) (λe c=>Aa (f2' Z c) (λd a=>∃b,o e d=some (.bl b)/\(if b=true then Aa (f3 Z a) (λg b=>Aa (Au (o' d g) b) Q E) E else Q (.bl false) a)) E) E:=aJ λe c=>aJ λd a=>by
 refine rA.trans ?_;rw[ae];exact Iff.rfl
end
section
variable{Q:Fl->S->Prop}{F G B:Ay S}{t:A9 S}{f fk fv:Fn S}{i j k:Nat}
def wp_sAug{o:Int->Int->Int}:Aa (GO S i f o Z st) Q E↔∃a,rd Z i=some (.int a)/\Aa (f Z st) (λd g=>∃b e,d=.int b/\put Z i (.int (o a b))=some e/\Q (.nx e) g) E:=by
 delta GO;cases rd Z i with
 | none=>exact bZ (c:=λb=>some (D.int b)) λb e=>by cases e
 | some d=>cases d with
   | int a=>
     refine(aJ λd g=>?_).trans {λq=>⟨a,rfl,q⟩,λh=>by obtain⟨_,e,q⟩:=h;cases e;exact q};cases d with
     | int b=>exact gK fg
     | _=>exact gJ λb e=>by cases e
   | _=>exact bZ (c:=λb=>some (D.int b)) λb e=>by cases e
def wp_sMt{o:List D->D->Option (List D)}:Aa (sMt S i o f Z st) Q E↔∃l,Bc Z i=some l/\Aa (f Z st) (λd a=>∃b,o l d=some b/\Q (.nx (Z.set i (.own (.lst b)))) a) E:=by
 delta sMt;cases Bc Z i with
 | none=>exact dY
 | some l=>
   refine dX (aJ λd a=>?_);rw[ae,au];exact Iff.rfl
def wp_sItem:Aa (JG S i fk fv Z st) Q E↔Aa (fv Z st) (λv b=>∃l,Bc Z i=some l/\Aa (fk Z b) (λd a=>∃j n,d=.int j/\CQ l.length j=some n/\v.imm=true/\Q (.nx (Z.set i (.own (.lst (l.set n v))))) a) E) E:=aJ λv b=>by
 cases Bc Z i with
 | none=>exact dY
 | some l=>
   refine dX (aJ λd a=>?_);cases d with
   | int j=>
     refine gK ?_;dsimp only;cases CQ l.length j with
     | none=>exact dY
     | some n=>exact dX ff
   | _=>exact gJ λb e=>by cases e
def wp_sDPut:Aa (JF S i fk fv Z st) Q E↔Aa (fv Z st) (λv e=>∃a c,D7 Z i=some (a,c)/\Aa (fk Z e) (λd b=>∃g,AN d=some g/\v.imm=true/\a.length<sizeLine/\Q (.nx (Z.set i (.own (.dct (.non::(AV g v a c).1) (AV g v a c).2)))) b) E) E:=aJ λv e=>by
 cases D7 Z i with
 | none=>exact{False.elim,λh=>by obtain⟨_,_,e,_⟩:=h;cases e}
 | some l=>
   obtain⟨a,c⟩:=l;refine(aJ λd b=>?_).trans {λq=>⟨a,c,rfl,q⟩,λh=>by obtain⟨_,_,e,q⟩:=h;cases e;exact q};cases AN d with
   | none=>exact dY
   | some g=>exact dX (ff.trans and_assoc)
def wp_sPar{b:Ba S}:Aa (JJ S i j b Z st) Q E↔Aa (b Z st) (λl a=>match l with
 | [d,e]=>∃c,put Z i d=some c/\∃b,put c j e=some b/\Q (.nx b) a
 | _=>False) E:=aJ λl a=>by
 match l with
 | []=>exact Iff.rfl
 | [_]=>exact Iff.rfl
 | [d,e]=>exact fi λ_=>fg
 | _::_::_::_=>exact Iff.rfl
def wp_sPar3{b:Ba S}:Aa (JL S i j k b Z st) Q E↔Aa (b Z st) (λl a=>match l with
 | [d,e,h]=>∃c,put Z i d=some c/\∃b,put c j e=some b/\∃g,put b k h=some g/\Q (.nx g) a
 | _=>False) E:=aJ λl a=>by
 match l with
 | []=>exact Iff.rfl
 | [_]=>exact Iff.rfl
 | [_,_]=>exact Iff.rfl
 | [d,e,h]=>exact fi λ_=>fi λ_=>fg
 | _::_::_::_::_=>exact Iff.rfl
end
end
section
variable{S α β:Type}{Q:α->S->Prop}{E:AG->S->Prop}{Z:Ae}{st:S}
def wp_ok{a:α}:Aa (Ar.ok a st) Q E↔Q a st:=Iff.rfl
def wp_bad:Aa (Ar.bad:Ar S α) Q E↔False:=Iff.rfl
def wp_some{a:α}:Aa (Au (some a) st) Q E↔Q a st:=Iff.rfl
def wp_none:Aa (Au (none:Option α) st) Q E↔False:=Iff.rfl
end
section
variable{S:Type}{E:AG->S->Prop}{Z:Ae}{st:S}
variable{Q:Fl->S->Prop}{F G B:Ay S}{t:A9 S}{f:Fn S}{i j:Nat}
def ar:Aa (E7 S F G Z st) Q E↔Aa (F Z st) (λb a=>match b with
 | .nx c=>Aa (G c a) Q E
 | .rt d=>Q (.rt d) a
 | .bk r=>Q (.bk r) a
 | .ct r=>Q (.ct r) a) E:=by
 delta E7;rw[ae];cases F Z st with
 | bad=>exact Iff.rfl
 | exc x s=>exact Iff.rfl
 | ok b s=>cases b<;>exact Iff.rfl
def wp_sNil:Aa (Jz S Z st) Q E↔Q (.nx Z) st:=Iff.rfl
def wp_sSet:Aa (FO S i f Z st) Q E↔Aa (f Z st) (λd a=>∃b,putN Z i d=some b/\Q (.nx b) a) E:=by
 delta FO;rw[ae];have:∀d a,Aa ((Au (putN Z i d) a).bind λe c=>Ar.ok (Fl.nx e) c) Q E↔∃b,putN Z i d=some b/\Q (.nx b) a:=λd a=>by rw[ae,au];exact Iff.rfl
 simp only[this]
def wp_sSetB:Aa (Hm S i f Z st) Q E↔Aa (f Z st) (λd a=>∃b,put Z i d=some b/\Q (.nx b) a) E:=by
 delta Hm;rw[ae];have:∀d a,Aa ((Au (put Z i d) a).bind λe c=>Ar.ok (Fl.nx e) c) Q E↔∃b,put Z i d=some b/\Q (.nx b) a:=λd a=>by rw[ae,au];exact Iff.rfl
 simp only[this]
def wp_sAsg{g:BX}:Aa (Ie S g f Z st) Q E↔Aa (f Z st) (λd a=>∃b,g d Z=some b/\Q (.nx b) a) E:=by
 delta Ie;rw[ae];have:∀d a,Aa ((Au (g d Z) a).bind λe c=>Ar.ok (Fl.nx e) c) Q E↔∃b,g d Z=some b/\Q (.nx b) a:=λd a=>by rw[ae,au];exact Iff.rfl
 simp only[this]
open H in
def wp_sIf:Aa (sIf S t F G Z st) Q E↔Aa (t Z st) (λb a=>if b=true then Aa (F Z a) Q E else Aa (G Z a) Q E) E:=by
 delta sIf;rw[ae];refine iff_of_eq (congrArg (λz=>Aa (t Z st) z E) (funext λb=>funext λa=>propext ?_));cases b<;>exact Iff.rfl
open H in
def wp_sRet:Aa (Hl S f Z st) Q E↔Aa (f Z st) (λd a=>(d.imm=true\/d.flat=true)/\Q (.rt d) a) E:=by
 delta Hl;rw[ae];refine iff_of_eq (congrArg (λz=>Aa (f Z st) z E) (funext λb=>funext λa=>propext ?_));by_cases h:b.imm=true\/b.flat=true
 ·rw[if_pos h];exact{λq=>⟨h,q⟩,λq=>q.2}
 ·rw[if_neg h];exact{λq=>q.elim,λq=>h q.1}
def wp_sRetV:Aa (Ic S i Z st) Q E↔∃d,own? Z i=some d/\Q (.rt d) st:=by
 delta Ic;rw[ae,au];exact Iff.rfl
def wp_sDrop:Aa (Ib S f Z st) Q E↔Aa (f Z st) (λ_ a=>Q (.nx Z) a) E:=by delta Ib;rw[ae];exact Iff.rfl
def wp_sFor{a:List Nat}{b:FnI S}{g:BX}:Aa (Ig S a b g B Z st) Q E↔Aa (b (frz a Z) st) (λl b=>Aa (DV S g B l (frz a Z) b) Q E) E:=by delta Ig;rw[ae]
def rB:Aa (KJ S Z st) Q E↔Q (.rt .non) st:=Iff.rfl
def rC:Aa (KL S Z st) Q E↔Q (.bk Z) st:=Iff.rfl
def rD:Aa (KM S Z st) Q E↔Q (.ct Z) st:=Iff.rfl
def wp_sBad:Aa (JI S Z st) Q E↔False:=Iff.rfl
theorem gL(I:Nat->Ae->S->Prop):∀{l:List D} {Z:Ae} {st:S} (n:Nat),I n Z st->
 (∀i d Z st,l[i]?=some d->I (n+i) Z st->∃e,g d Z=some e/\Aa (B e st) (λc a=>match c with
  | .nx b=>I (n+i+1) b a
  | .ct b=>I (n+i+1) b a
  | .bk b=>Q (.nx b) a
  | .rt d=>Q (.rt d) a) E)->(∀Z st,I (n+l.length) Z st->Q (.nx Z) st)->Aa (DV S g B l Z st) Q E
 | [],Z,st,n,h,_,m=>m Z st h
 | d::l,Z,st,n,h,o,m=>by
   obtain⟨e,p,q⟩:=o 0 d Z st rfl h;unfold DV;rw[p];refine ae.mpr (wp_some.mpr (ae.mpr (ak q (λc a z=>?_) λx a z=>z)));have e:∀b,I (n+1) b a->Aa (DV S g B l b a) Q E:=λb z=>gL I (n+1) z (λi d Z st h a=>by
    have:=o (i+1) d Z st (by simpa using h) (by rw[show n+(i+1)=n+1+i by omega];exact a);rw[show n+(i+1)=n+1+i by omega] at this;exact this) λZ st h=>m Z st (by rw[CD,show n+(l.length+1)=n+1+l.length by omega];exact h)
   cases c with
   | nx b=>exact e b z
   | ct b=>exact e b z
   | bk b=>exact z
   | rt d=>exact z
end
section
variable{S:Type}{E:AG->S->Prop}{Z:Ae}{st:S}{Q:D->S->Prop}{f f1 f2' f3:Fn S}{i:Nat}{t:A9 S}
def wp_fC{d:D}:Aa (fC S d Z st) Q E↔Q d st:=Iff.rfl
def rE:Aa (fV S i Z st) Q E↔Aa (Au (rd Z i) st) Q E:=Iff.rfl
def wp_fVk:Aa (fVk S i Z st) Q E↔Aa (Au (kp Z i) st) Q E:=Iff.rfl
open H in
def rF:Aa (fI S f Z st) Q E↔Aa (f Z st) (λd a=>d.imm=true/\Q d a) E:=by
 delta fI;rw[ae];refine iff_of_eq (congrArg (λz=>Aa (f Z st) z E) (funext λb=>funext λa=>propext ?_));by_cases h:b.imm=true
 ·rw[if_pos h];exact{λq=>⟨h,q⟩,λq=>q.2}
 ·rw[if_neg h];exact{λq=>q.elim,λq=>h q.1}
def wp_f2{o:D->D->Option D}:Aa (f2 S o f1 f2' Z st) Q E↔Aa (f1 Z st) (λd b=>Aa (f2' Z b) (λc a=>Aa (Au (o d c) a) Q E) E) E:=by
 unfold f2;rw[ae];simp only[ae]
def wp_fA{o:List D->Option D}{b:Ba S}:Aa (fA S o b Z st) Q E↔Aa (b Z st) (λl a=>Aa (Au (o l) a) Q E) E:=by delta fA;rw[ae]
def wp_aNil{Q:List D->S->Prop}:Aa (Gb S Z st) Q E↔Q [] st:=Iff.rfl
def wp_aCons{Q:List D->S->Prop}{r:Ba S}:Aa (Cu S f r Z st) Q E↔Aa (f Z st) (λd b=>Aa (r Z b) (λl a=>Q (d::l) a) E) E:=by
 delta Cu;rw[ae];simp only[ae];exact Iff.rfl
open H in
def wp_fCall{F:List D->Ar Unit D}{b:Ba S}:Aa (GF S F b Z st) Q E↔Aa (b Z st) (λl a=>Aa (F l) (λd _=>Q d a) λ_ _=>False) E:=by
 delta GF;rw[ae];refine iff_of_eq (congrArg (λz=>Aa (b Z st) z E) (funext λb=>funext λa=>propext ?_));cases F b<;>exact Iff.rfl
open H in
def wp_fCallS{F:List D->S->Ar S D}{e:Ba S}:Aa (GG S F i e Z st) Q E↔Z[i]?=some .hnd/\Aa (e Z st) (λl a=>Aa (F l a) Q λ_ _=>False) E:=by
 delta GG;split
 ·rename_i h
  rw[ae];have:∀b a,Aa (match F b a with
   | .ok d c=>Ar.ok d c
   | _=>Ar.bad) Q E↔Aa (F b a) Q λ_ _=>False:=λb a=>by cases F b a<;>exact Iff.rfl
  refine(iff_of_eq (congrArg (λz=>Aa (e Z st) z E) (funext λd=>funext λa=>propext (this d a)))).trans ?_;exact{λq=>⟨h,q⟩,λq=>q.2}
 ·rename_i h
  exact{λq=>q.elim,λq=>h q.1}
def rG{T:Bt}:Aa (fIs S T f Z st) Q E↔Aa (f Z st) (λd a=>Q (.bl (BZ T d)) a) E:=by delta fIs;rw[ae];exact Iff.rfl
open H in
def wp_fIfE:Aa (JD S t f1 f2' Z st) Q E↔Aa (t Z st) (λb a=>if b=true then Aa (f1 Z a) Q E else Aa (f2' Z a) Q E) E:=by
 delta JD;rw[ae];refine iff_of_eq (congrArg (λz=>Aa (t Z st) z E) (funext λb=>funext λa=>propext ?_));cases b<;>exact Iff.rfl
def wp_fCut{c e:FnO S}:Aa (Iw S f c e Z st) Q E↔Aa (f Z st) (λd b=>Aa (c Z b) (λl a=>Aa (e Z a) (λh b=>Aa (Au (Iv l h d) b) Q E) E) E) E:=by
 delta Iw;rw[ae];simp only[ae]
def wp_pNo{Q:Option Int->S->Prop}:Aa (pNo S Z st) Q E↔Q none st:=Iff.rfl
def wp_iSeq{Q:List D->S->Prop}{a:D->Option (List D)}:Aa (Er S a f Z st) Q E↔Aa (f Z st) (λd b=>Aa (Au (a d) b) Q E) E:=by delta Er;rw[ae]
def wp_iArgs{Q:List D->S->Prop}{o:List D->Option (List D)}{b:Ba S}:Aa (FP S o b Z st) Q E↔Aa (b Z st) (λl a=>Aa (Au (o l) a) Q E) E:=by delta FP;rw[ae]
def wp_fComp{a:List Nat}{ixs:List (Option Nat)}{b:FnI S}{g:BX}:Aa (Gc S a ixs b g t f Z st) Q E↔Aa (b (frz a Z) st) (λl b=>Aa (Dm S g t f l [] (Bu (frz a Z) ixs) b) (λr a=>Q (.lst r) a) E) E:=by
 delta Gc;rw[ae];simp only[ae];exact Iff.rfl
theorem cv{g:BX}{Q:List D->S->Prop}(I:Nat->List D->Ae->S->Prop):∀{l a:List D} {Z:Ae} {st:S} (n:Nat),I n a Z st->
 (∀i d a Z st,l[i]?=some d->I (n+i) a Z st->∃e,g d Z=some e/\Aa (t e st) (λb c=>if b=true then Aa (f e c) (λy j=>y.imm=true/\a.length<sizeLine/\I (n+i+1) (a++[y]) e j) E else I (n+i+1) a e c) E)->
 (∀a Z st,I (n+l.length) a Z st->Q a st)->Aa (Dm S g t f l a Z st) Q E
 | [],a,Z,st,n,h,_,m=>m a Z st h
 | d::l,a,Z,st,n,h,o,m=>by
   obtain⟨e,r,q⟩:=o 0 d a Z st rfl h;have p:∀a c,I (n+1) a e c->Aa (Dm S g t f l a e c) Q E:=λa c z=>cv I (n+1) z (λi d a Z st h g=>by
    have:=o (i+1) d a Z st (by simpa using h) (by rw[show n+(i+1)=n+1+i by omega];exact g);rw[show n+(i+1)=n+1+i by omega] at this;exact this) λa Z st h=>m a Z st (by rw[CD,show n+(l.length+1)=n+1+l.length by omega];exact h)
   unfold Dm;rw[r];refine ae.mpr (wp_some.mpr (ae.mpr (ak q (λb c z=>?_) λx c z=>z)));cases b with
   | true=>
     have z:Aa (f e c) (λy j=>y.imm=true/\a.length<sizeLine/\I (n+0+1) (a++[y]) e j) E:=z;rw[if_pos rfl];refine ae.mpr (ak z (λy j hI123=>?_) λx c z=>z);obtain⟨a,b,d⟩:=hI123;rw[if_pos ⟨a,b⟩];exact p _ _ d
   | false=>exact p _ _ z
variable{Q:Bool->S->Prop}{t1 t2:A9 S}
open H in
def wp_fAnd:Aa (H9 S t1 t2 Z st) Q E↔Aa (t1 Z st) (λb a=>if b=true then Aa (t2 Z a) Q E else Q false a) E:=by
 delta H9;rw[ae];refine iff_of_eq (congrArg (λz=>Aa (t1 Z st) z E) (funext λb=>funext λa=>propext ?_));cases b<;>exact Iff.rfl
open H in
def wp_fOr:Aa (fOr S t1 t2 Z st) Q E↔Aa (t1 Z st) (λb a=>if b=true then Q true a else Aa (t2 Z a) Q E) E:=by
 delta fOr;rw[ae];refine iff_of_eq (congrArg (λz=>Aa (t1 Z st) z E) (funext λb=>funext λa=>propext ?_));cases b<;>exact Iff.rfl
def wp_fNot:Aa (Ia S t1 Z st) Q E↔Aa (t1 Z st) (λb a=>Q (!b) a) E:=by delta Ia;rw[ae];exact Iff.rfl
def wp_fTrue:Aa (Ho S Z st) Q E↔Q true st:=Iff.rfl
end
def aF{n p:Nat}{B:Ay Unit}{l:List D}{Q:D->Unit->Prop}{E:AG->Unit->Prop}(e:l.length=p)(c:p<=n)(h:Aa (B (BY n l) ()) (λa b=>match a with
 | .rt d=>Q d b
 | .nx _=>Q .non b
 | _=>False) E):Aa (BC n p B l) Q E:=by
 delta BC;rw[if_pos ⟨e,c⟩];cases q:B (BY n l) () with
 | bad=>rw[q] at h;exact h
 | exc x u=>rw[q] at h;exact h
 | ok a u=>rw[q] at h;cases a<;>exact h
def cZ{S:Type}{n p:Nat}{B:Ay S}{l:List D}{a:S}{Q:D->S->Prop}{E:AG->S->Prop}(e:l.length+1=p)(c:p<=n)(h:Aa (B (BO n l) a) (λb a=>match b with
 | .rt d=>Q d a
 | .nx _=>Q .non a
 | _=>False) E):Aa (D5 n p B l a) Q E:=by
 delta D5;rw[if_pos ⟨e,c⟩];cases q:B (BO n l) a with
 | bad=>rw[q] at h;exact h
 | exc x u=>rw[q] at h;exact h
 | ok b u=>rw[q] at h;cases b<;>exact h
def aB{m:Int}{b:Dr}{Q:D->Dr->Prop}{E:AG->Dr->Prop}(c:0<m)(d:m<1073741824)(e:b.2<2 ^ 40)(h:∀v a,0<=v->v<m->a.2=b.2+1->Q (.int v) a):Aa (CL [.int m] b) Q E:=by
 delta CL;simp only;rw[if_pos ⟨c,d,e⟩];split
 ·exact h _ _ (Int.emod_nonneg _ 'o') (Int.emod_lt_of_pos _ c) rfl
 ·exact h _ _ (Int.emod_nonneg _ 'o') (Int.emod_lt_of_pos _ c) rfl
def bJ{l:List D}:D.flat (.lst l)=D.immL l:=rfl
def bK{k l:List D}:D.flat (.dct k l)=D.immL l:=rfl
def bL{i:Int}:D.flat (.int i)=false:=rfl
def bM{i:Str}:D.flat (.str i)=false:=rfl
def flat_bl{i:Bool}:D.flat (.bl i)=false:=rfl
def bN:D.flat .non=false:=rfl
def bO{l:List D}:D.flat (.tup l)=false:=rfl
def aY{n:Nat}(h:n<=1000):n<=sizeLine:=BB (dD h)
def lt_size{n:Nat}(h:n<=1000):n<sizeLine:=dD h
theorem aq{α:Type}{f:α->D}(h:∀a,(f a).imm=true):∀l:List α,D.immL (l.map f)=true
 | []=>rfl
 | a::l=>by simp only[BI,D.immL,h a,aq h l,De]
def rH:D.immL l=true↔∀d∈l,d.imm=true:=by
 induction l with
 | nil=>simp[D.immL]
 | cons a l b=>simp[D.immL,b]
def cG(m:D.immL l=true)(h:l.length<=1000):B3 l=some (.tup l):=if_pos {m,aY h}
def bi{l:List D}(m:D.immL l=true)(h:l.length<=1000):DU l=some (.lst l):=if_pos {m,aY h}
def aO(d:a.imm=true)(c:b.imm=true):B3 [a,b]=some (.tup [a,b]):=cG (by simp[D.immL,d,c]) 'd'
def fj(f:a.imm=true)(e:b.imm=true)(d:c.imm=true):B3 [a,b,c]=some (.tup [a,b,c]):=cG (by simp[D.immL,f,e,d]) 'd'
def aQ:DU []=some (.lst []):=bi rfl 'd'
def fm{a b:D}(d:a.imm=true)(c:b.imm=true):DU [a,b]=some (.lst [a,b]):=bi (by simp[D.immL,d,c]) 'd'
def bB(m:d.imm=true)(h:l.length<=1000):Hr l d=some (l++[d]):=if_pos {m,lt_size h}
def ag{i:Int}:D.imm (.int i)=true:=id rfl
def bn{i:Str}:D.imm (.str i)=true:=id rfl
def aE{i:Bool}:D.imm (.bl i)=true:=id rfl
def bo:D.imm .non=true:=id rfl
def ao{l:List D}:D.imm (.tup l)=D.immL l:=id rfl
def cc{S:Type}{E:AG->S->Prop}{Z:Ae}{c:S}{Q:List D->S->Prop}{g:BX}{t:A9 S}{f:Fn S}{l:List D}(h:D->D)(R:Ae->Prop)(q:R Z)(p:∀d∈l,∀Z,R Z->∃j,g d Z=some j/\R j/\Aa (t j c) (λb m=>b=true/\m=c) E/\Aa (f j c) (λy o=>y=h d/\y.imm=true/\o=c) E)(a:l.length<=sizeLine)(u:Q (l.map h) c):Aa (Dm S g t f l [] Z c) Q E:=by
 refine cv (λn a f e=>a=(l.take n).map h/\R f/\e=c) 0 {'d',q,rfl} (λi d a f e g hI125=>?_) λa f e hI124=>?_
 ·obtain⟨a,r,e⟩:=hI125
  subst e;have h:i<l.length:=(AQ.mp g).1;obtain⟨j,h,n,i,l⟩:=p d (Bq g) f r;refine{j,h,ak i (λb m hI126=>?_) λx s z=>z};obtain⟨b,es⟩:=hI126;subst b es;rw[if_pos rfl];refine ak l (λy o ⟨d,b,es⟩=>{b,?_,?_,n,es}) λx s z=>z
  ·rw[a,Ai,CO];omega
  ·rw[a,d,As,Cc,g,BD];rfl
 ·obtain⟨a,r,e⟩:=hI124
  rw[As,CC] at a;subst a e;exact u
theorem kF{α:Type}{f:α->Int}:∀l:List α,Et (l.map λa=>.int (f a))=some (l.map f)
 | []=>rfl
 | a::l=>by simp only[BI,Et,kF l,BA]
theorem dZ{α:Type}{f:α->Bool}:∀l:List α,Do (l.map λa=>.bl (f a))=some (l.map f)
 | []=>rfl
 | a::l=>by simp only[BI,Do,dZ l,BA]
mutual
noncomputable def D.lw:D->Bool
 | .bl _=>false
 | .dct _ _=>false
 | .fl l=>D.lwL l&&decide (l.length<=sizeLine)
 | .fd _ _=>false
 | .tup l=>D.lwL l&&decide (l.length<=sizeLine)
 | .lst l=>D.lwL l&&decide (l.length<=sizeLine)
 | _=>true
noncomputable def D.lwL:List D->Bool
 | []=>true
 | d::l=>D.lw d&&D.lwL l
end
def fo:D.lwL l=true↔∀d∈l,d.lw=true:=by
 induction l with
 | nil=>simp[D.lwL]
 | cons a l b=>simp[D.lwL,b]
def kG(h:d∈l):d.dep<=D.depL l:=by
 induction l with
 | nil=>cases h
 | cons a l b=>
   unfold D.depL;rcases AE.mp h with e | e
   ·subst e;omega
   ·have:=b e;omega
def rJ(h:d∈Dz l l):∃x∈l,d=.tup [x,x]:=by
 obtain⟨i,c⟩:=DF h;obtain⟨x,y,b,a,rfl⟩:=ke c;rw[b] at a;cases a;exact{x,Bq b,rfl}
def kH{l:List D}:Do (l.map λ_=>.bl true)=some (l.map λ_=>true):=dZ (f:=λ_=>true) l
def gM{a b:D}(e:a.imm=true)(d:b.imm=true){c:Bool}:AR (.lst [a,b]) (.int (if c=true then 1 else 0))=some (if c=true then b else a):=by
 cases c
 ·show im (some a)=some a
  simp[im,e]
 ·show im (some b)=some b
  simp[im,d]
def bQ{j:Int}(h:j<=1000)(a:0<=j):GH [.int j]=some (Dk 0 j.toNat):=if_pos {'o','o'}
def bC{a:Int}{n:Nat}:(Dk a n).length=n:=by delta Dk;simp
def bD{a:Int}{n i:Nat}(h:(Dk a n)[i]?=some d):d=.int (a+i)/\i<n:=by
 delta Dk at h;rw[AK] at h;cases q:(List.range n)[i]? with
 | none=>rw[q] at h;cases h
 | some k=>
   rw[q] at h;obtain⟨b,e⟩:=AQ.mp q;rw[List.getElem_range] at e;subst e;cases h;exact{rfl,by simpa using b}
mutual
theorem rK:∀{d:D},d.lw=true->D.eqq d d=some true
 | .non,_=>rfl
 | .bl _,h=>nomatch (show false=true from h)
 | .int i,_=>congrArg some (beq_self_eq_true i)
 | .str i,_=>congrArg some (beq_self_eq_true i)
 | .tup l,h=>by
   have a:D.lwL l=true/\l.length<=sizeLine:=by simpa using (show (D.lwL l&&decide (l.length<=sizeLine))=true from h)
   exact ee a.1
 | .lst l,h=>by
   have a:D.lwL l=true/\l.length<=sizeLine:=by simpa using (show (D.lwL l&&decide (l.length<=sizeLine))=true from h)
   show (if l.length=l.length then D.eqL l l else some false)=some true;rw[if_pos rfl];exact ee a.1
 | .fl l,h=>by
   have a:D.lwL l=true/\l.length<=sizeLine:=by simpa using (show (D.lwL l&&decide (l.length<=sizeLine))=true from h)
   show (if l.length=l.length then D.eqL l l else some false)=some true;rw[if_pos rfl];exact ee a.1
 | .dct _ _,h=>nomatch (show false=true from h)
 | .fd _ _,h=>nomatch (show false=true from h)
theorem ee:∀{l:List D},D.lwL l=true->D.eqL l l=some true
 | [],_=>rfl
 | d::l,h=>by
   have a:d.lw=true/\D.lwL l=true:=by simpa [D.lwL] using h
   simp only[D.eqL,rK a.1,ee a.2,Eg,BA,De]
end
theorem kI{α:Type}{f:α->D}(h:∀a,(f a).lw=true):∀l:List α,D.lwL (l.map f)=true
 | []=>rfl
 | a::l=>by simp only[BI,D.lwL,h a,kI h l,De]
def kJ(h:D.lwL l=true)(a:l.length<=1000):D.lw (.tup l)=true:=by
 show (D.lwL l&&decide (l.length<=sizeLine))=true;rw[h,Bool.true_and,decide_eq_true_eq];exact aY a
theorem cw{α:Type}{f:α->D}{n:Nat}(h:∀a,(f a).dep<=n):∀l:List α,D.depL (l.map f)<=n
 | []=>AF _
 | a::l=>by
   have c:=h a;have b:=cw h l;simp only[BI,D.depL];omega
section
variable{S:Type}{E:AG->S->Prop}{Z:Ae}{st:S}{Q:Fl->S->Prop}{f fk fv:Fn S}{i j k:Nat}{t:A9 S}{B:Ay S}
theorem gO(I:Ae->S->Prop)(μ:Ae->S->Nat)(l:∀Z st,I Z st->Aa (t Z st) (λb e=>if b=true then Aa (B Z e) (λg a=>match g with
 | .nx c=>I c a/\μ c a<μ Z st
 | .ct c=>I c a/\μ c a<μ Z st
 | .bk c=>Q (.nx c) a
 | .rt d=>Q (.rt d) a) E else Q (.nx Z) e) E):∀(n:Nat) (Z:Ae) (st:S),I Z st->μ Z st<n->Aa (CJ S t B n Z st) Q E
 | 0,_,_,_,h=>absurd h (Fj _)
 | n+1,Z,st,h,m=>by
   unfold CJ;refine ae.mpr (ak (l Z st h) (λb e q=>?_) λx s z=>z);cases b with
   | false=>exact q
   | true=>
     have q:Aa (B Z e) _ E:=q;rw[if_pos rfl];refine ae.mpr (ak q (λg a z=>?_) λx s z=>z);cases g with
     | nx c=>exact gO I μ l n c a z.1 (by have:=z.2;omega)
     | ct c=>exact gO I μ l n c a z.1 (by have:=z.2;omega)
     | bk c=>exact z
     | rt d=>exact z
def rL(I:Ae->S->Prop)(μ:Ae->S->Nat)(e:I Z st)(g:∀Z st,I Z st->Aa (t Z st) (λb c=>if b=true then Aa (B Z c) (λd a=>match d with
 | .nx b=>I b a/\μ b a<μ Z st
 | .ct b=>I b a/\μ b a<μ Z st
 | .bk b=>Q (.nx b) a
 | .rt d=>Q (.rt d) a) E else Q (.nx Z) c) E):Aa (FQ S t B Z st) Q E:=by
 have h:=gO (Q:=Q) (E:=E) I μ g (μ Z st+1) Z st e (Nat.lt_succ_self _);rw[jJ (n:=μ Z st+1) (λz=>by rw[z] at h;exact h)];exact h
end
def gP[∀i j,Decidable (C i j)]{i j:Int}(h:C i j):iOp C g (.int i) (.int j)=some (g i j):=if_pos h
section
variable{S:Type}{E:AG->S->Prop}{Z:Ae}{st:S}{Q:Fl->S->Prop}{F G:Ay S}
def rM(I:Ae->S->Prop)(f:Aa (F Z st) (λc a=>∃b,c=.nx b/\I b a) E)(d:∀b a,I b a->Aa (G b a) Q E):Aa (E7 S F G Z st) Q E:=
 ar.mpr (ak f (λc a ⟨b,e,h⟩=>by subst e;exact d b a h) λx s z=>z)
end
def cH{n:Nat}(h:n<=1000000):n<sizeLine:=by rw[sizeLine_eq];omega
def gQ{l:List D}{v:Int}(b:0<=v)(a:v<l.length):∃d,BG l v=some d/\l[v.toNat]?=some d:=by
 have a:v.toNat<l.length:=by omega
 refine{l[v.toNat],?_,AO a};have:=ge (AO a);rwa [show ((v.toNat:Nat):Int)=v by omega] at this
def ef{v:Int}(m:D.immL l=true)(c:0<=v)(b:v<l.length):∃d∈l,AR (.lst l) (.int v)=some d:=by
 obtain⟨d,e,f⟩:=gQ c b;have a:=Bq f;refine{d,a,?_};show im (BG l v)=_;rw[e];simp[im,rH.mp m d a]
def eg{v:Int}(m:d.imm=true)(c:0<=v)(h:l[v.toNat]?=some d):AR (.lst l) (.int v)=some d/\AR (.tup l) (.int v)=some d:=by
 have b:v<l.length:=by have:=(AQ.mp h).1;omega
 obtain⟨d',e,a⟩:=gQ c b;rw[h] at a;cases a;constructor
 ·show im (BG l v)=_
  rw[e];simp[im,m]
 ·show im (BG l v)=_
  rw[e];simp[im,m]
def eh{i j:Int}:D.eqq (.int i) (.int j)=some (i == j):=id rfl
def rN{i j:Str}:D.eqq (.str i) (.str j)=some (i == j):=id rfl
def cx{a:Bool}{i j:Int}:Bh a (.int i) (.int j)=some (.bl (if a then !(i == j) else (i == j))):=by
 delta Bh;rw[if_pos (by simp[D.dep]),eh];rfl
def eu{a:Bool}{i j:Str}:Bh a (.str i) (.str j)=some (.bl (if a then !(i == j) else (i == j))):=by
 delta Bh;rw[if_pos (by simp[D.dep]),rN];rfl
def Np{i j:Int}:Bh false (.int i) (.int j)=some (.bl (i == j)):=cx
def Nq{i j:Int}:Bh true (.int i) (.int j)=some (.bl (!(i == j))):=cx
def Nr{i j:Str}:Bh false (.str i) (.str j)=some (.bl (i == j)):=eu
def Nt{i j:Bool}:Bh true (.bl i) (.bl j)=some (.bl (!(i == j))):=rfl
theorem kK:∀{c d:List D},c.length=d.length->(AC k c (List.zipWith g c d)).isSome=(AC k c d).isSome
 | [],[],_=>rfl
 | a::c,b::d,h=>by
   show (AC k (a::c) (g a b::List.zipWith g c d)).isSome=_;unfold AC;by_cases e:AN a=some k
   ·rw[if_pos e,if_pos e];rfl
   ·rw[if_neg e,if_neg e];exact kK (by simpa using h)
 | [],_::_,h=>by cases h
 | _::_,[],h=>by cases h
theorem kL:∀{c d:List D},c.length=d.length->(AC k (c++[AD k']) (d++[v])).isSome=((AC k c d).isSome||decide (k'=k))
 | [],[],_=>by
   show (AC k [AD k'] [v]).isSome=_;unfold AC;rw[cY];by_cases e:k'=k
   ·rw[if_pos (by rw[e])];simp[e]
   ·rw[if_neg (λz=>e (Option.some.inj z))];simp[AC,e]
 | a::c,b::d,h=>by
   show (AC k (a::(c++[AD k'])) (b::(d++[v]))).isSome=_;unfold AC;by_cases e:AN a=some k
   ·rw[if_pos e,if_pos e];rfl
   ·rw[if_neg e,if_neg e];exact kL (by simpa using h)
 | [],_::_,h=>by cases h
 | _::_,[],h=>by cases h
def fq(h:a.length=b.length):(AV k v a b).1.length=(AV k v a b).2.length/\(AV k v a b).1.length<=a.length+1:=by
 delta AV;split
 ·simp[List.length_zipWith,h]
 ·simp[h]
open H in
def rO(h:a.length=b.length):(AC k (AV k' v a b).1 (AV k' v a b).2).isSome=((AC k a b).isSome||decide (k'=k)):=by
 delta AV;split
 ·rename_i c
  rw[kK h];by_cases e:k'=k
  ·subst e;simp[c]
  ·simp[e]
 ·exact kL h
instance Holds(d:D)(n:Nat)(P:List Al->Prop):Prop:=∃ks vs,d=.dct (.non::ks) vs/\D.immL vs=true/\ks.length=vs.length/\ks.length<=n/\∀k,(AC k ks vs).isSome=true↔P k
def Holds.put{a c:List D}{n:Nat}{P:List Al->Prop}{k:List Al}{v:D}(h:Holds (.dct (.non::a) c) n P)(f:v.imm=true):Holds (.dct (.non::(AV k v a c).1) (AV k v a c).2) (n+1) (λq=>P q\/k=q):=by
 obtain⟨d,j,e,g,b,l,i⟩:=h;cases e;refine{_,_,rfl,e7 f g,(fq b).1,by have:=(fq (k:=k) (v:=v) b).2;omega,λq=>?_};rw[rO b,Bool.or_eq_true,i q,decide_eq_true_eq]
theorem Holds.all:∀{ps:List (List Al×D)} {c d:List D} {n:Nat} {P:List Al->Prop},Holds (.dct (.non::c) d) n P->(∀p∈ps,p.2.imm=true)->Holds (.dct (.non::(CK ps (c,d)).1) (CK ps (c,d)).2) (n+ps.length) (λq=>P q\/∃p∈ps,p.1=q)
 | [],c,d,n,P,h,_=>by
   obtain⟨a,b,e,f,i,l,g⟩:=h;exact{a,b,e,f,i,l,λq=>by rw[g q];simp}
 | p::ps,c,d,n,P,h,j=>by
   have m:=Holds.all (ps:=ps) (h.put (k:=p.1) (j p 'd')) λq h=>j q (by simp[h])
   obtain⟨a,b,e,f,i,l,g⟩:=m;refine{a,b,e,f,i,by simp;omega,λq=>?_};rw[g q];simp only[AE,exists_eq_or_imp];constructor
   ·rintro ((a | a) | a)
    ·exact .inl a
    ·exact .inr (.inl a)
    ·exact .inr (.inr a)
   ·rintro (a | a | a)
    ·exact .inl (.inl a)
    ·exact .inl (.inr a)
    ·exact .inr a
def Holds.in_{n:Nat}(h:Holds d n P)(f:AN k=some kk){b:Bool}(g:b=true↔P kk):Dy false k d=some (.bl b)/\Dy true k d=some (.bl (!b)):=by
 obtain⟨a,c,rfl,i,j,l,d⟩:=h;have e:(AC kk a c).isSome=b:=by rw[FK,d,g]
 constructor
 ·show (AN k).map _=_
  rw[f];show some (D.bl (AC kk a c).isSome)=_;rw[e]
 ·show (AN k).map _=_
  rw[f];show some (D.bl (!(AC kk a c).isSome))=_;rw[e]
def Holds.flat{d:D}{n:Nat}{P:List Al->Prop}(h:Holds d n P):d.flat=true:=by
 obtain⟨b,e,rfl,a,d,f,c⟩:=h;exact a
def Holds.nil{n:Nat}:Holds (.dct [.non] []) n (λ_=>False):={[],[],rfl,rfl,rfl,AF _,λk=>by simp[AC]}
def Holds.imp{n m:Nat}(h:Holds d n P)(b:n<=m)(a:∀k,P k↔P' k):Holds d m P':=by
 obtain⟨f,g,e,b,d,i,c⟩:=h;exact{f,g,e,b,d,'o',λk=>by rw[c k,a k]}
instance FrT(K:FG)(a:Addr)(xs:List V):Prop:=∃(o:Obj) (its:Array Value) (n:Nat),K.lookup a=some o/\o.cls=.type "tuple"/\o.data=.seq its n/\its.size<=sizeLine/\Aq xs its.toList
def FrT.sq{K:FG}{a:Addr}{b:List V}{H:Hp}(h:FrT K a b):AS K H a b:=.inr h
def IA(K:FG)(a:Addr)(tbl:List (Int×Int)):Prop:=∃vs,FrT K a vs/\vs.length=tbl.length/\∀(i:Nat) (p:Int×Int),tbl[i]?=some p->∃b,vs[i]?=some (.ref b)/\FrT K b [.int p.1,.int p.2]
section
variable{X:Cx}{S:Type}{W:Wd S}{c:Dx W}{g ga gb gc:Gr}{a b:Expr}{fa fb fc:Fn S}{pos p2:Pos}{E:AG->S->Prop}{Z:Ae}{st:S}
def rP{x:Str}{i:Int}(h:∃t,X.mg x=some (.int i t))(f:Gl X x)(d:autoParam 'u' uD):DE X c g (.Name x pos) (fC S (.int i)):=by
 obtain⟨t,e⟩:=h;exact(iR (v:=.int i) f e ⟨t,rfl⟩ d).imp λY H Q ⟨Z,st,R,d,w⟩=>w _ _ Ah.refl d (AB.val R (show AB c H H (.int _) (.int _) from Is.int_iff.mpr rfl) g)
def JP(S:Type)(tbl:List (Int×Int))(i j:Nat)(f:Fn S):Ay S:=λZ st=>(f Z st).bind λd st1=>match d with
 | .int k=>if 0<=k then match tbl[k.toNat]? with
  | some p=>(Au (put Z i (.int p.1)) st1).bind λZ1 st2=>(Au (put Z1 j (.int p.2)) st2).bind λZ2 st3=>.ok (.nx Z2) st3
  | none=>.bad
   else .bad
 | _=>.bad
open H in
def xT{x h d:Str}{e:Expr}{f:Fn S}{tbl:List (Int×Int)}{i j:Nat}{a0:Addr}{q l p2 m u:Pos}{kt}(O:X.calm=true)(o:c.K=X.K)(y:∃a0,X.mg x=some (.ref a0)/\IA X.K a0 tbl)(I:Gl X x)(B:X.N.Nodup)(hi:X.N[i]?=some h)(G:X.N[j]?=some d)(C:Loc X.env.scope h)(Y:Loc X.env.scope d)(U:DE X c .R e f)(r:GD e)(M:autoParam 'u' uD)(p:autoParam (X.fn h=true\/X.env.scope.names.lookup h=some .local) M3._auto_1)(o:autoParam (X.fn d=true\/X.env.scope.names.lookup d=some .local) M3._auto_1)(P:autoParam (swapsWithSole [.Tuple [.Name h l,.Name d p2] kt m] (.Subscript (.Name x q) e u) pos.line X.env=pure false) uR)(R:autoParam (swappedStores [.Tuple [.Name h l,.Name d p2] kt m] (.Subscript (.Name x q) e u) X.env=pure none) uR)(J:autoParam ((assignEach [.Tuple [.Name h l,.Name d p2] kt m] X.env).map (·.2)=[assign (.Tuple [.Name h l,.Name d p2] kt m) X.env]) uR)(N:autoParam ((assignEach [.Name h l,.Name d p2] X.env).length=2) uR)(A:autoParam ((assignEach [.Name h l,.Name d p2] X.env).findIdx? (·.1)=none) uR)(s:autoParam ((assignEach [.Name h l,.Name d p2] X.env).map (·.2)=assign (.Name h l) X.env::(assignEach [.Name d p2] X.env).map (·.2)) uR)(z:autoParam ((assignEach [.Name d p2] X.env).map (·.2)=assign (.Name d p2) X.env::(assignEach [] X.env).map (·.2)) uR) :
 DS X c (.Assign [.Tuple [.Name h l,.Name d p2] kt m] (.Subscript (.Name x q) e u) pos) (JP S tbl i j f):=by
 obtain⟨a0,y,u,T,d,Q⟩:=y;refine(fY (gf jf (iR (v:=.ref a0) I y rfl M) U r) (fX (n:=2) O (du (eO (i:=i) B hi C p) (du (eO (i:=j) B G Y o) fW z) s) N A) P R J).imp λD Y H hI127=>?_
 obtain⟨Z,st,R,l,w⟩:=hI127;refine{Z,st,R,l,ak (ae.mp w) (λd f q v H1 j h z=>?_) λx f q m e d=>q m (e.f0 R) d};split at q
 ·rename_i k
  split at q
  ·rename_i d
   split at q
   ·rename_i p f
    obtain⟨e,d,q⟩:=au.mp (ae.mp q);obtain⟨m,e,q⟩:=au.mp (ae.mp q);obtain⟨o,rfl⟩:=cu d;obtain⟨m,rfl⟩:=cu e;obtain⟨b,r,d⟩:=Q k.toNat p f;have z':Is c.K 'w' H1 (.int k) v:=z.toR;have e:=(R.ext l j).setB o (show Is c.K (Av c Y Z) H1 (.int p.1) (.int p.1) from Is.int_iff.mpr rfl);have R2:=e.setB m (show Is c.K _ H1 (.int p.2) (.int p.2) from Is.int_iff.mpr rfl);refine{a0,u,k,.ref b,rfl,Is.int_iff.mp z',T.sq,?_,b,[.int p.1,.int p.2],rfl,d.sq,rfl,_,_,rfl,_,_,rfl,rfl,?_}
    ·have:=ge r
     rwa [show ((k.toNat:Nat):Int)=k by omega] at this
    ·exact q _ _ ((Ah.frm j).trans (bc.trans bc)) h R2
   ·exact q.elim
  ·exact q.elim
 ·exact q.elim
def Gh(d k x:D):Option D:=match d with
 | .dct (.non::ks) vs=>(AN k).bind λkk=>im (some ((AC kk ks vs).getD x))
 | _=>none
def IB(S:Type)(f1 f2 f3:Fn S):Fn S:=λZ st=>(f1 Z st).bind λd st1=>match d with
 | .dct (.non::ks) vs=>(f2 Z st1).bind λk st2=>(f3 Z st2).bind λx st3=>Au (Gh (.dct (.non::ks) vs) k x) st3
 | _=>.bad
open H in
def xU(d:X.A.units+2<cLine)(h:DE X c ga o fa)(i:DE X c gb e fb)(j:DE X c gc f fc)(m:M2 X o "get" apos e f cpos):DE X c g (.Call (.Attribute o "get" apos) [e,f] [] cpos) (IB S fa fb fc):=
 (pR d h i j m).imp λY H Q hI44=>by
  obtain⟨Z,st,R,f,w⟩:=hI44;have w':=ae.mp w;refine{Z,st,R,f,ak w' (λd e q v H1 l i z=>?_) λx e q=>q};split at q
  ·rename_i r p
   have y:Is c.K 'w' H1 (.dct (.non::r) p) v:=z.toR;obtain⟨a,us,s,n,d,j⟩:=Is.dct_iff.mp y;have d:IsD H1 a:=by
    rcases j with⟨m,_,_,h⟩ | ⟨m,_,_,h⟩
    ·exact .inl {_,.inl h}
    ·exact .inr {_,.inl h}
   refine{a,s,d,Z,e,R.ext f l,i,ak (ae.mp q) (λk e q G H2 h d C=>?_) λx e q H2 h d=>q H2 (l.trans h) d};have R2:=(R.ext f l).ext i h;refine{Z,e,R2,d,ak (ae.mp q) (λx f q z H3 j e A=>?_) λx f q H3 j e=>q H3 ((l.trans h).trans j) e};obtain⟨o,f,q⟩:=au.mp q;have u:=(l.trans h).trans j;have B:=R2.ext d j;have I:Is c.K 'w' H3 (.dct (.non::r) p) v:=(y.ext h i λ_ n=>n).ext j d λ_ n=>n
   have v:Is c.K 'w' H3 k G:=C.toR.ext j d;have G:Is c.K 'w' H3 x z:=A.toR;cases j:AN k with
   | none=>delta Gh at f;rw[j] at f;cases f
   | some m=>
     have f:im (some ((AC m r p).getD x))=some o:=by delta Gh at f;rw[j] at f;exact f
     obtain⟨i,l⟩:=eY f;obtain⟨m,o',h,n,d⟩:=gD j v I;rw[s] at h;have h:a=m:=by cases h;rfl
     subst h;refine{o',n,q _ H3 u e ?_};have y:Is c.K 'w' H3 o (o'.getD z):=by
      rcases d with⟨f,h⟩ | ⟨d',v',f,h,d⟩
      ·rw[f] at i;rw[h]
       cases i;exact G
      ·rw[f] at i;rw[h]
       cases i;exact d
     exact(AB.val B (show AB c H3 H3 o _ from Is.ofImm l y) g).back u e
  ·exact q.elim
def IC:D->D->Option D
 | .lst l,.int k=>if D.immL l=true/\-(2 ^ 63)<=k/\k<2 ^ 63/\l.length*k.toNat<=sizeLine then some (.lst (List.replicate k.toNat l).flatten) else none
 | _,_=>none
theorem kM{K:FG}{A:Addr->Prop}{H:Hp}{l:List D}{d:List V}(h:aa K A H l d):∀k:Nat,aa K A H (List.replicate k l).flatten (List.replicate k d).flatten
 | 0=>aa.nil.mpr rfl
 | k+1=>by
   rw[Fg,Fg,FI,FI];exact h.append (kM h k)
theorem kN(h:D.immL l=true):∀k:Nat,D.immL (List.replicate k l).flatten=true
 | 0=>rfl
 | k+1=>by
   rw[Fg,FI];exact bI h (kN h k)
open H in
def rQ:Bx c Hk IC:=by
 intro i f h e H st d Q i f m e q;delta IC at e;split at e
 ·rename_i l k
  split at e
  ·rename_i d
   cases e;obtain⟨a,us,j,n,l,h⟩:=Is.lst_iff.mp f;refine{a,k,us,j,Is.int_iff.mp m,l,d.2.1,d.2.2.1,by rw[<-h.length];exact d.2.2.2,λp f=>?_};exact q _ _ (Ah.laid f) (aL i f) (AB.lst i f (λ_ n=>n) (kN d.1 _) (kM h _))
  ·cases e
 ·cases e
def ID(a b:D):Option D:=(iOp DR (λi j=>.int (i*j)) a b).or (IC a b)
def xV:A8 X (binaryOp .Mult) (λx y H Q=>rI DR (λi j=>.int (i*j)) x y H Q\/Hk x y H Q):=cB.or pj
def xW:Bx c (λx y H Q=>rI DR (λi j=>.int (i*j)) x y H Q\/Hk x y H Q) ID:=qt.or rQ
def wp_sTab2{Q:Fl->S->Prop}{i j:Nat}{f:Fn S}{tbl:List (Int×Int)}:Aa (JP S tbl i j f Z st) Q E↔Aa (f Z st) (λd e=>∃k p,d=.int k/\0<=k/\tbl[k.toNat]?=some p/\∃h,put Z i (.int p.1)=some h/\∃f,put h j (.int p.2)=some f/\Q (.nx f) e) E:=aJ λd e=>by
 cases d with
 | int k=>
   refine gK ?_;refine(ff.trans ?_).trans exists_and_left.symm;refine and_congr Iff.rfl ?_;cases tbl[k.toNat]? with
   | none=>exact dY
   | some p=>exact dX (fi λ_=>fg)
 | _=>exact gJ λb e=>by cases e
open H in
def wp_fGet{Q:D->S->Prop}{m j n:Fn S}:Aa (IB S m j n Z st) Q E↔Aa (m Z st) (λd e=>∃f h,d=.dct (.non::f) h/\Aa (j Z e) (λk i=>Aa (n Z i) (λx l=>Aa (Au (Gh (.dct (.non::f) h) k x) l) Q E) E) E) E:=by
 delta IB;rw[ae];refine iff_of_eq (congrArg (λz=>Aa (m Z st) z E) (funext λd=>funext λe=>propext ?_));by_cases m:∃f h,d=.dct (.non::f) h
 ·obtain⟨f,h,rfl⟩:=m
  show Aa ((j Z e).bind λk i=>(n Z i).bind λx l=>Au (Gh (.dct (.non::f) h) k x) l) Q E↔_;rw[ae];simp only[ae];exact{λq=>⟨f,h,rfl,q⟩,λ⟨d,i,e,q⟩=>by cases e;exact q}
 ·constructor
  ·intro q
   split at q
   ·rename_i f h
    exact absurd ⟨f,h,rfl⟩ m
   ·exact q.elim
  ·rintro ⟨f,h,rfl,_⟩
   exact absurd ⟨f,h,rfl⟩ m
end
def rR{K:FG}{a e f l j:Addr}{p0 p1 p2 p3:Int×Int}{g q o p b:Option Addr}{d r i m c:Array (Option Value)}{n x A E u:Nat}{J s C B I G y v:Tok}(h:K.lookup a=some {.type "tuple",g,.seq #[.ref e,.ref f,.ref l,.ref j] n,d})(z:K.lookup e=some {.type "tuple",q,.seq #[.int p0.1 J,.int p0.2 I] x,r})(q:K.lookup f=some {.type "tuple",o,.seq #[.int p1.1 s,.int p1.2 G] A,i})(r:K.lookup l=some {.type "tuple",p,.seq #[.int p2.1 C,.int p2.2 y] E,m})(o:K.lookup j=some {.type "tuple",b,.seq #[.int p3.1 B,.int p3.2 v] u,c}):IA K a [p0,p1,p2,p3]:=by
 have c:∀{b:Addr} {p:Int×Int} {g:Option Addr} {d:Array (Option Value)} {n:Nat} {t u:Tok},K.lookup b=some ⟨.type "tuple",g,.seq #[.int p.1 t,.int p.2 u] n,d⟩->FrT K b [.int p.1,.int p.2]:=λ{b p g d n t u} h=>
  {_,_,_,h,rfl,rfl,by show 2<=sizeLine;decide,.cons ⟨t,rfl⟩ (.cons ⟨u,rfl⟩ .nil)}
 refine{[.ref e,.ref f,.ref l,.ref j],{_,_,_,h,rfl,rfl,by show 4<=sizeLine;decide,.cons rfl (.cons rfl (.cons rfl (.cons rfl .nil)))},rfl,λi p a=>?_}
 match i,a with
 | 0,a=>cases a;exact{e,rfl,c z}
 | 1,a=>cases a;exact{f,rfl,c q}
 | 2,a=>cases a;exact{l,rfl,c r}
 | 3,a=>cases a;exact{j,rfl,c o}
 | i+4,a=>simp at a
end L2
namespace PySem
def rS{T a:String}(g:typeLookup (.type T) "__init__" = pure (some (.builtin "object.__init__")))(h:Bind.madeBy (.type T)=pure (some a))(d:(some a != some "object.__new__")=true):Meets (Builtin.«object.__init__» {c::more,kw}) (λ_ R s=>s.TypeIs c T/\R (.ok (.ret .none)) s):=
 .of_wp λprog w A R s e=>by
  obtain⟨f,b⟩:=e;cases more with
  | nil=>
    cases kw with
    | nil=>exact Ao {_,rfl,b}
    | cons=>
      repeat (any_goals (first | assumption | wp_step))
      exact{_,rfl,b}
  | cons=>
    repeat (any_goals (first | assumption | wp_step))
    exact{_,rfl,b}
def rT{T b:String}(a:TypeCalled T b "object.__init__")(o:(some b != some "object.__new__")=true)(I:checkTypeCall T ⟨i,kw⟩=pure ())(m:checkBuiltinCall b {.type T::i,kw}=pure ())(l:∀x,argsOk "object.__init__" {x::i,kw})(C:entryFor table b=some B)(g:Meets (B {.type T::i,kw}) S)(h:S A.in1 (wants (λx j=>j.TypeIs x T/\Q x j) E) s):wpAny 'r' A (call (.type T) i kw) Q E s:=by
 obtain⟨c,J,u⟩:=a.mro;have n:=a.made;have q:=a.sub;refine wpAny_call (codeAny_of_tree (Ao {Code.quiet_builtin _ (by decide +kernel),codeAny_builtin F.entry_type_call ?_}));rw[Around.under_plain (weight_type_call_type T i kw) (units_type_call_type T i kw)];have M:=a.notType;have P:=a.canCreate;repeat (any_goals (first | assumption | wp_step))
 refine codeAny_mono (codeAny_call_builtin a.plain C (wpAny_of_eq m (g prog w A.in1 _ s h))) λr j f=>?_
 cases r with
 | error e=>exact f
 | ok v=>
   cases v with
   | ret x=>
     have N:j.TypeIs x T:=f.1;have y:=a.init.lookup;have G:=a.init.bind x;repeat (any_goals (first | assumption | wp_step))
     refine codeAny_mono (codeAny_call_builtin a.init.plain F.entry_object_init (a.init.check _ _ _ _ _ _ _ _ f.1 (l x) (rS a.init.lookup a.made o prog w A.in1 (wants (λr p=>r=.none/\Q x p) E) j ⟨f.1,rfl,f.2⟩))) λz p d=>?_
     cases z with
     | error e=>exact d
     | ok f2=>
       cases f2 with
       | ret r=>
         obtain⟨rfl,O⟩:=d;repeat (any_goals (first | assumption | wp_step))
       | _=>exact d.elim
   | _=>exact f.elim
open H in
def rV(l:Addr)(t:Tok)(a:Array Value)(n:Nat)(b:Option Addr)(c:Array (Option Value)) :
 Meets (Builtin.«enumerate.__new__» {[.type "enumerate",.ref l],[("start",.int 1 t)]}) (λ_ R s=>s.heap.get? l=some { cls:=.type "list",dict:=b,data:=.seq a n,slots:=c }/\
  R (.ok (.ret (.ref (s.heap.push { cls:=.type "list_iterator",data:=.fields #[.ref l,.int 0 0] }).objs.size)))
    { s with heap:=(s.heap.push { cls:=.type "list_iterator",data:=.fields #[.ref l,.int 0 0] }).push { cls:=.type "enumerate",data:=.fields #[.none,.bool false,.ref s.heap.objs.size,rawInt 1,.none,.none] } }):=
 .of_wp λprog w A R s h=>by
  obtain⟨f,g,d,j,i⟩:=s;obtain⟨b,h⟩:=h;have c:=sub_enumerate;have e:Heap.IsList (Shared.heap ⟨f,g,d,j,i⟩) l a:={_,b,rfl,n,rfl}
  wp_walk using AutoSeq1.wpAny_loadPart' b
  refine wpAny_stack_any λa=>Ao ?_
  split
  ·rename_i c _ _ _ _ _
   cases (c == Value.type "enumerate")<;>(wp_walk using AutoSeq1.wpAny_loadPart' b,wpAny_pyIter_list e;exact{_,rfl,h})
  ·(wp_walk using AutoSeq1.wpAny_loadPart' b,wpAny_pyIter_list e;exact{_,rfl,h})
def rW(a v:Value):checkTypeCall "enumerate" {[a],[("start",v)]}=pure ():=by kernel_rfl
def rX(a v:Value):checkBuiltinCall "enumerate.__new__" {[.type "enumerate",a],[("start",v)]}=pure ():=by kernel_rfl
def rY(x a v:Value):argsOk "object.__init__" {[x,a],[("start",v)]}:=by kernel_rfl
def rZ(j:s.heap.IsList l items)(h:∀a,IsEnum a (s.heap.objs.size+1) s.heap.objs.size 1 .none->a.IsListIter s.heap.objs.size l 0->(∀b o,s.heap.get? b=some o->a.get? b=some o)->Q (.ref (s.heap.objs.size+1)) { s with heap:=a }) :
 wpAny 'r' A (call (.type "enumerate") [.ref l] [("start",.int 1 t)]) Q E s:=by
 obtain⟨⟨c,e,i,g⟩,f,d,n,a⟩:=j;have d:c=.type "list":=d;have a:i=.seq items n:=a;subst d a;refine rT F.called_enumerate 'z' (rW _ _) (rX _ _) (λx=>rY x _ _) F.entry_enumerate_new (rV l t items n e g) {f,?_};generalize a:s.heap.push { cls:=.type "list_iterator",data:=.fields #[.ref l,.int 0 0] }=g;have d:g.objs.size=s.heap.objs.size+1:=by rw[<-a];exact DZ ..
 have c:IsEnum (g.push { cls:=.type "enumerate",data:=.fields #[.none,.bool false,.ref s.heap.objs.size,rawInt 1,.none,.none] }) (s.heap.objs.size+1) s.heap.objs.size 1 .none:=by
  have:=Be g (o:={ cls:=.type "enumerate",data:=.fields #[.none,.bool false,.ref s.heap.objs.size,rawInt 1,.none,.none] }) rfl;rw[d] at this;exact this
 have e:g.get? s.heap.objs.size=some { cls:=.type "list_iterator",data:=.fields #[.ref l,.int 0 0] }:=by rw[<-a];exact Be _ rfl
 show _/\_;rw[d];exact{{_,c,rfl},h _ c {_,AJ _ e,rfl,rfl} λb o x=>AJ _ (by rw[<-a];exact AJ _ x)}
end PySem
namespace L2
def r0{P:Program}{w:World}{K:FG}(a b:Addr):Ij P w K (λH j=>Rd H a (.lst j)) (λi h=>h.IsListIter b a i) b where
 obj:=λ⟨o,a,_,d⟩=>{o,a,λv z=>by rw[d] at z;cases z}
 keep:=λt q=>t.at q
 inj:=λ_ I a c=>I.list_inj (.inl a) (.inl c)
 item:=λ_ I b e c=>by
  obtain⟨a,d,p,_⟩:=I.list (.inl b);obtain⟨u,i,f⟩:=d.get e;exact{u,f,λA E Q g=>wpAny_nextOf_list_item c p.isList (by simpa using i) g}
 done:=λ_ I b e c A E Q f h=>by
  obtain⟨a,d,p,_⟩:=I.list (.inl b);have a:=d.length;exact wpAny_nextOf_list_end f c p.isList (by simp;omega) h
open H in
def r5{P:Program}{w:World}{K:FG}{d:List Expr}{x1}{pos:Pos}(b:Nat)(a e c:Addr):E2 P w K (.Tuple d x1 pos) (GI b λH f=>Rd H a (.lst f)) [e,c] e (λi h=>e≠c/\(∃d,IsEnum h e c (i+b:Nat) d)/\h.IsListIter c a i):=jO (r0 a c)
def r6{pos:Pos}{T:String}{e:Expr}{a:List Expr}{b:List Keyword}{Q:Value->Shared->Prop}(h:wpAny M A (spliced (backTo pos (starEach (e::a) env))) (λn c=>wpAny M A (evalAll ((backToKw pos (keywordEach b env)).map (·.2)))
  (λi d=>wpAny M A (call (.type T) n (((backToKw pos (keywordEach b env)).filterMap (·.1)).zip i)) Q E d) E c) E s)(m:autoParam (backTo pos (starEach (e::a) env)=(false,eval e env)::backTo pos (starEach a env)) uR)(f:autoParam ((backTo pos (starEach (e::a) env)).any (·.1)=false) uR)(j:autoParam ((backToKw pos (keywordEach b env)).all (·.1.isSome)=true) uR)(g:autoParam ((backToKw pos (keywordEach b env)).any (·.1.isNone)=false) uR) :
 wpAny M A (callWith pos (.type T) [] (backTo pos (starEach (e::a) env)) (backToKw pos (keywordEach b env))) Q E s:=by
 delta callWith;have l:wpAny M A (evalArgs (.type T) true (backTo pos (starEach (e::a) env)) (backToKw pos (keywordEach b env))) (λa c=>wpAny M A (call (.type T) ([]++a.pos) a.kw) Q E c) E s:=by
  rw[m] at h ⊢;exact evalArgs_kwB j h
 refine Ac (wpAny_holding (Db l (λa c b=>Ac (wpAny_standAt ?_)) λ_ _ x=>x));simp only[f,g,Bool.or_false];refine Ac (Ao ?_);exact Ac (Db b (λr d a=>Ac (wpAny_holding (wpAny_point (Ao a)))) λ_ _ x=>x)
section
variable{x1:Nat}{S:Type}{i:Nat}
def JQ(b:Nat)(ta:TA):TI:=λY H R=>ta Y H λvs H1=>∃a xs,vs=[.ref a]/\Rd H1 a (.lst xs)/\R (GI b λH xs=>Rd H a (.lst xs)) H1
def r7{a:Expr}{e:TA}{p pos kp d:Pos}{j}(f:Gl X "enumerate")(l:X.mg "enumerate" = none)(g:PA X [a] e)(b:autoParam (starEach [a] X.env=[(false,eval a X.env)]) uR):PI X (.Tuple elts x1 tpos) (.Call (.Name "enumerate" p) [a] [{some "start",.Constant (.int 1) j d,kp}] pos) (JQ 1 e):=by
 intro c s Y H R I h;show wpAny _ _ (do callWith pos (<-eval (.Name "enumerate" p) X.env) [] (backTo pos (starEach [a] X.env)) (backToKw pos (keywordEach [⟨some "start",.Constant (.int 1) j d,kp⟩] X.env))) _ _ _;refine Ac (cA I f l boot_enumerate (r6 (ai (g pos c s Y H _ I h) λus a ⟨e,H1,I1,f,d⟩=>kws_cons (ai (aT c a Y H1 (λv e=>v=.int 1/\e=H1) I1 ⟨rfl,rfl⟩) λu a ⟨v,H2,I2,c,e⟩=>kws_nil ?_)) (by rw[b];rfl) (by rw[b];rfl)));obtain⟨rfl,rfl⟩:=e;obtain⟨t,rfl⟩:=c;obtain⟨l,b,rfl,e,q⟩:=d;cases f with
 | cons r b=>
   cases b;cases r;obtain⟨d,g,c,f⟩:=I2.list (.inl e);refine rZ (t:=t) c.isList λe d f b=>?_
   refine wpAny_pyIter_enum (s:={ a with heap:=e }) d ?_;refine{a.heap.objs.size+1,[a.heap.objs.size+1,a.heap.objs.size],_,_,H2,rfl,I2.kept (t':=a.toks) b,r5 1 l _ _,{Nat.succ_ne_self _,{_,d},f},λb c=>?_,q};have c:a.heap.objs.size<=b:=by
    rcases AE.mp c with z | z
    ·rw[z];exact Fs _
    ·exact BQ (Bd.mp z).symm
   exact I2.fpOk c (I2.hok.fresh c)
def Hw(b:Nat):List D->Option (List D)
 | [.lst l]=>some (Es b l)
 | [.fl l]=>some (Es b l)
 | _=>none
open H in
def r8{b:Nat}(h:∀d,PA X [a] d->PI X (.Tuple elts x1 tpos) e (JQ b d))(g:DB X c [a] f):DI X c (.Tuple elts x1 tpos) e (FP S (Hw b) f):=
 (h _ g).imp λY H R hI45=>by
  obtain⟨Z,c,b,d,w⟩:=hI45;refine{Z,c,b,d,ak (ae.mp w) (λl b q c H1 e d z=>?_) λx b q=>q};obtain⟨m,c,q⟩:=au.mp q;delta Hw at c;split at c
  ·rename_i l
   cases c;obtain⟨v,r,b,g,h⟩:=aa.cons.mp z;obtain⟨a,m,f,s0,i,j⟩:=Is.asL g rfl;rw[aa.nil.mp h,f] at b;exact{a,m,b,s0,q _ H1 e d (gx j i)}
  ·rename_i l
   cases c;obtain⟨v,r,b,g,h⟩:=aa.cons.mp z;obtain⟨a,m,f,s0,i,j⟩:=Is.asL g rfl;rw[aa.nil.mp h,f] at b;exact{a,m,b,s0,q _ H1 e d (gx j i)}
  ·cases c
def xX{a:Expr}{f:Ba S}{p pos kp g:Pos}{j}(b:Gl X "enumerate")(l:X.mg "enumerate" = none)(d:DB X c [a] f)(e:autoParam (starEach [a] X.env=[(false,eval a X.env)]) uR):DI X c (.Tuple elts x1 tpos) (.Call (.Name "enumerate" p) [a] [{some "start",.Constant (.int 1) j g,kp}] pos) (FP S (Hw 1) f):=
 r8 (λ_ h=>r7 b l h e) d
def Hx(S:Type)(i:Nat):Ay S:=λZ st=>match Bc Z i with
 | some l=>.ok (.nx (Z.set i (.own (.lst l.reverse)))) st
 | none=>.bad
def xY{x:Str}(e:PE X (.Name x p1) (B1 i))(a:autoParam (attributeBase (.Name x p1) "reverse" X.env (eval (.Name x p1) X.env)=eval (.Name x p1) X.env) uR)(b:autoParam ((p2.endLine == p3.line)=true) uR)(d:autoParam (swapsWith (.Call (.Attribute (.Name x p1) "reverse" p2) [] [] p3) none p4.line X.env=pure false) uR):DS X c (.Expr (.Call (.Attribute (.Name x p1) "reverse" p2) [] [] p3) p4) (Hx S i):=
 (fT (o9 PySem.F.plainAttrs_list PySem.F.slot_list_reverse PySem.F.type_list_reverse pd e a b) d).imp λD Y H hI46=>by
  obtain⟨Z,a,R,f,w⟩:=hI46;delta Hx at w;cases q:Bc Z i with
  | none=>rw[q] at w;exact w.elim
  | some l=>
    rw[q] at w;obtain⟨a,b,e,d,z,g⟩:=R.lstAt q;refine{.ref a,e,.inl {rfl,b,.of d},a,b,rfl,rfl,d,?_};obtain⟨R2,a⟩:=R.wr (d':=.lst l.reverse) (o:=.lst b.reverse) (eZ q) e {(λu z=>by cases z),(λe u z=>by cases z)} λk=>{b.reverse,aw,aa.mono k (aa.ofImm (A':=Av c Y Z) (q8 (gu q).2) z.reverse)}
    exact w Y _ a (bY f g d) R2
end
mutual
noncomputable def aG:D->PyData
 | .non=>.none
 | .bl b=>.bool b
 | .int i=>.int i
 | .str x=>.str x
 | .tup l=>.tuple (bf l)
 | .lst _=>.none
 | .dct _ _=>.none
 | .fd _ _=>.none
 | .fl l=>.list (bf l)
noncomputable def bf:List D->List PyData
 | []=>[]
 | d::l=>aG d::bf l
end
mutual
noncomputable def szD:D->Nat
 | .int _=>1921
 | .str x=>(reprText x).length
 | .tup l=>bp l+3
 | .fl l=>bp l+3
 | _=>5
noncomputable def bp:List D->Nat
 | []=>0
 | d::l=>szD d+2+bp l
end
mutual
noncomputable def aK:D->Bool
 | .int i=>decide (i.natAbs.log2<1920)
 | .tup l=>bx l
 | .fl l=>bx l
 | _=>true
noncomputable def bx:List D->Bool
 | []=>true
 | d::l=>aK d&&bx l
end
mutual
noncomputable def dpD:D->Nat
 | .tup l=>bz l+1
 | .fl l=>bz l+1
 | _=>0
noncomputable def bz:List D->Nat
 | []=>0
 | d::l=>max (dpD d) (bz l)
end
mutual
theorem kO:∀d:D,(aG d).showable=aK d
 | .non=>rfl
 | .bl _=>rfl
 | .int _=>rfl
 | .str _=>rfl
 | .tup l=>by unfold aG PyData.showable aK;exact gR l
 | .fl l=>by unfold aG PyData.showable aK;exact gR l
 | .lst _=>rfl
 | .dct _ _=>rfl
 | .fd _ _=>rfl
theorem gR:∀l:List D,PyData.showableAll (bf l)=bx l
 | []=>rfl
 | d::l=>by unfold bf PyData.showableAll bx;rw[kO d,gR l]
end
mutual
theorem kP:∀d:D,(aG d).depth=dpD d
 | .non=>rfl
 | .bl _=>rfl
 | .int _=>rfl
 | .str _=>rfl
 | .tup l=>by unfold aG PyData.depth dpD;rw[gU l]
 | .fl l=>by unfold aG PyData.depth dpD;rw[gU l]
 | .lst _=>rfl
 | .dct _ _=>rfl
 | .fd _ _=>rfl
theorem gU:∀l:List D,PyData.depthAll (bf l)=bz l
 | []=>rfl
 | d::l=>by unfold bf PyData.depthAll bz;rw[kP d,gU l]
end
mutual
theorem kQ:∀d:D,(aG d).hasDict=false
 | .non=>rfl
 | .bl _=>rfl
 | .int _=>rfl
 | .str _=>rfl
 | .tup l=>by unfold aG PyData.hasDict;exact gV l
 | .fl l=>by unfold aG PyData.hasDict;exact gV l
 | .lst _=>rfl
 | .dct _ _=>rfl
 | .fd _ _=>rfl
theorem gV:∀l:List D,PyData.hasDictAll (bf l)=false
 | []=>rfl
 | d::l=>by unfold bf PyData.hasDictAll;rw[kQ d,gV l];rfl
end
mutual
theorem kR:∀d:D,aK d=true->(aG d).shown.length<=szD d
 | .non,_=>by show 4<=5;decide
 | .bl b,_=>by cases b<;>decide
 | .int i,h=>by
   unfold aK at h;have e:=int_text_length_le (k:=1920) 'z' (of_decide_eq_true h);show (Str.ofString (toString i)).length<=1921;rw[PySem.ofString_length];exact e
 | .str x,_=>Ap _
 | .tup l,h=>by
   unfold aK at h;have e:=tupleText_len_le (PyData.shownAll (bf l));have a:=gW l h;unfold aG PyData.shown szD;omega
 | .fl l,h=>by
   unfold aK at h;have e:=listText_len_le (PyData.shownAll (bf l));have a:=gW l h;unfold aG PyData.shown szD;omega
 | .lst _,_=>by show 4<=5;decide
 | .dct _ _,_=>by show 4<=5;decide
 | .fd _ _,_=>by show 4<=5;decide
theorem gW:∀l:List D,bx l=true->((PyData.shownAll (bf l)).map (·.length)).sum+2*(PyData.shownAll (bf l)).length<=bp l
 | [],_=>Ap _
 | d::l,h=>by
   unfold bx at h;have h:=Gz.mp h;have a:=kR d h.1;have b:=gW l h.2;unfold bf PyData.shownAll bp;rw[BI,List.sum_cons,CD];omega
end
section
variable{S:Type}
mutual
theorem Ab.reads(I:Ab X y Y H s):∀(d:D) (v:V) (u:Value),d.imm=true->Is X.K A H d v->Am v u->∃e,Reads s.heap u (aG d) e
 | .non,v,u,_,h,r=>by unfold Is at h;subst h;cases r;exact{_,.none}
 | .bl b,v,u,_,h,r=>by unfold Is at h;subst h;cases r;exact{_,.bool b}
 | .int i,v,u,_,h,r=>by unfold Is at h;subst h;obtain⟨t,rfl⟩:=r;exact{_,.int i t}
 | .str x,v,u,_,h,r=>by unfold Is at h;subst h;obtain⟨t,rfl⟩:=r;exact{_,.str x t}
 | .tup l,v,u,b,h,r=>by
   obtain⟨a,m,rfl,q,i⟩:=Is.tup_sq h;cases r;obtain⟨c,p,⟨o,f,g,n,d⟩,_⟩:=I.tuple q;obtain⟨e,j⟩:=Ab.readsL I l m c b i p;unfold aG;exact{e,.tuple f g d (by rw[List.toList_toArray];exact j)}
 | .fl l,v,u,b,h,r=>by
   obtain⟨a,s,m,rfl,q,i⟩:=Is.fl_iff.mp h;cases r;obtain⟨c,p,⟨o,n,f,g,_,d⟩,_⟩:=I.list (.inl (.inr ⟨s,q⟩));obtain⟨e,j⟩:=Ab.readsL I l m c b i p;unfold aG;exact{a::e,.list f g d (by rw[List.toList_toArray];exact j)}
 | .lst _,_,_,b,_,_=>by cases b
 | .dct _ _,_,_,b,_,_=>by cases b
 | .fd _ _,_,_,b,_,_=>by cases b
theorem Ab.readsL(I:Ab X m Y H s):∀(l:List D) (b:List V) (us:List Value),D.immL l=true->aa X.K A H l b->Aq b us->∃c,ReadsAll s.heap us (bf l) c
 | [],b,us,_,h,r=>by
   rw[aa.nil.mp h] at r;cases r;exact{_,.nil}
 | d::l,b,us,a,h,r=>by
   unfold D.immL at a;have a:=Gz.mp a;obtain⟨v,w,rfl,i,j⟩:=aa.cons.mp h;cases r with
   | cons g e=>
     obtain⟨c,f⟩:=Ab.reads I d v _ a.1 i g;obtain⟨d,c⟩:=Ab.readsL I l w _ a.2 j e;exact{_,.cons f c}
end
def Fb(l:List D):Prop:=D.immL l=true/\bx l=true/\bz l<60/\bp l+3<=sizeLine
@[reducible]instance (l:List D):Decidable (Fb l):=by delta Fb;infer_instance
def FS:List D->Option D
 | [.tup l]=>if Fb l then some (.str (aG (.tup l)).shown) else none
 | [.fl l]=>if Fb l then some (.str (aG (.fl l)).shown) else none
 | [.int i]=>if i.natAbs.log2<1920 then some (.str (toString i)) else none
 | _=>none
open H in
def xZ{k:Nat}(b:AT k X.A):Ch X (.type "str") (λn H Q=>∃(A:Addr->Prop) (v:V) (d:D) (t:Str),n=[v]/\Is X.K A H d v/\FS [d]=some (.str t)/\Q (.str t) H):=by
 intro c s Y H n us Q I r h;obtain⟨A,v,d,t,rfl,i,e,q⟩:=h;obtain⟨u,rfl,m⟩:=br r;have a:=b.units;have g:∀(d:D) (a:Addr),d.imm=true->Is X.K A H d (.ref a)->aK d=true->dpD d<=60->szD d<=sizeLine->Q (.str (aG d).shown) H->wpAny 'e' X.A (call (.type "str") [.ref a]) (EP X c Y Q) X.xe s:=λd a f i c j h q=>by
  obtain⟨o,l⟩:=Ab.reads I d (.ref a) (.ref a) f i rfl;have o:=kR d c;refine str_of_reads l (by rw[kO];exact c) (PyData.noDict_hsm (kQ _)) b.gd (by rw[kP];omega) (λb o e=>e) (λl t b k=>?_) 'o';exact{.str (aG d).shown,H,I.kept k,⟨t,rfl⟩,q}
 cases d with
 | tup l=>
   have e:(if Fb l then some (D.str (aG (.tup l)).shown) else none)=some (.str t):=e;split at e
   ·rename_i b
    cases e;obtain⟨f,c,j,h⟩:=b;obtain⟨a,d,rfl,_,_⟩:=Is.tup_iff.mp i;cases m;exact g (.tup l) a f i c (by unfold dpD;omega) (by unfold szD;exact h) q
   ·cases e
 | fl l=>
   have e:(if Fb l then some (D.str (aG (.fl l)).shown) else none)=some (.str t):=e;split at e
   ·rename_i b
    cases e;obtain⟨f,c,j,h⟩:=b;obtain⟨a,o,d,rfl,_,_⟩:=Is.fl_iff.mp i;cases m;exact g (.fl l) a f i c (by unfold dpD;omega) (by unfold szD;exact h) q
   ·cases e
 | int j=>
   have e:(if j.natAbs.log2<1920 then some (D.str (toString j)) else none)=some (.str t):=e;split at e
   ·rename_i b
    cases e;rw[Is.int_iff.mp i] at m;obtain⟨a,rfl⟩:=m;exact P.str_of_int b {.str (toString j),H,I.tok _,{_,rfl},q}
   ·cases e
 | _=>cases e
def x3{K:FG}(a:c.K=K):Ck c (λh H Q=>∃(A:Addr->Prop) (v:V) (d:D) (t:Str),h=[v]/\Is K A H d v/\FS [d]=some (.str t)/\Q (.str t) H) FS:=by
 subst a;intro l f H b d Q j z e q
 match l,z,e with
 | [a],z,e=>
   obtain⟨v,r,b,g,i⟩:=aa.cons.mp z;rw[aa.nil.mp i] at b;have fin:∀t:Str,d=.str t->FS [a]=some (.str t)->∃(A:Addr->Prop) (v:V) (d:D) (t:Str),f=[v]/\Is c.K A H d v/\FS [d]=some (.str t)/\Q (.str t) H:=λt f e=>by
    subst f;exact{_,v,a,t,b,g,e,q _ H Ah.refl j (show AB c H H (.str _) (.str _) from Is.str_iff.mpr rfl)}
   have b:=e;cases a with
   | tup l=>
     have e:(if Fb l then some (D.str (aG (.tup l)).shown) else none)=some d:=e;split at e
     ·cases e;exact fin _ rfl b
     ·cases e
   | fl l=>
     have e:(if Fb l then some (D.str (aG (.fl l)).shown) else none)=some d:=e;split at e
     ·cases e;exact fin _ rfl b
     ·cases e
   | int j=>
     have e:(if j.natAbs.log2<1920 then some (D.str (toString j)) else none)=some d:=e;split at e
     ·cases e;exact fin _ rfl b
     ·cases e
   | _=>cases e
 | [],_,e=>cases e
 | _::_::_,_,e=>delta FS at e;simp at e
end
section
variable{X:Cx}{S:Type}{W:Wd S}{c:Dx W}{g ga gb gc:Gr}{H1:Hp}{Y:St}{Z:Ae}{st1:S}{A:Addr->Prop}
end
section
variable{X:Cx}{S:Type}{W:Wd S}{c:Dx W}{i:Nat}
section
variable{Q:Fl->S->Prop}{E:AG->S->Prop}{Z:Ae}{st:S}
end
end
end L2
namespace PySem
end PySem
namespace L2
section
variable{x1:Nat}{S:Type}{X:Cx}{W:Wd S}{c:Dx W}{g ga:Gr}{H:Hp}{st:S}
def KQ(t:TA):TE:=λY H Q=>t Y H λxs H1=>xs.length<=sizeLine/\∀p o,H1 p=none->Q (.ref p) (Ag H1 p (.frz o (.lst xs)))
def r9(h:PA X es t):PE X (.List es pos) (KQ t):=by
 intro a s Y H Q I b;refine wpAny_List_spliced (ai (h pos a s Y H _ I b) λus a ⟨d,H1,I1,r,z,q⟩=>{by rw[<-r.length];exact z,?_});have f:H1 a.heap.objs.size=none:=I1.hok.fresh (Ap _);have e:(a.heap.push { cls:=.type "list",data:=.seq us.toArray }).get? a.heap.objs.size=some { cls:=.type "list",data:=.seq us.toArray }:=Be _ rfl;refine{.ref a.heap.objs.size,Ag H1 a.heap.objs.size (.frz { cls:=.type "list",data:=.seq us.toArray } (.lst d)),I1.laid (t':=a.toks) (λb u e=>AJ _ e) (Ap _) ?_,rfl,q _ _ f};exact{e,z,us,0,r,e}
def AB.fl{p:Addr}{o:Obj}{l:List D}{a:List V}{A:Addr->Prop}(d:W.ok st H)(h:H p=none)(e:∀b,A b->¬W.mv b)(m:D.immL l=true)(i:aa c.K A H l a):AB c H (Ag H p (.frz o (.lst a))) (.fl l) (.ref p):=
 Is.fl_iff.mpr {p,o,a,rfl,aw,aa.ofImm m (i.ext (Ah.laid h) d e)}
def Hy(l:List D):Option D:=if D.immL l=true/\l.length<=sizeLine then some (.fl l) else none
open H in
def sd:Ck c (λb H1 Q=>b.length<=sizeLine/\∀p o,H1 p=none->Q (.ref p) (Ag H1 p (.frz o (.lst b)))) Hy:=by
 intro l a H st d Q f z e q;delta Hy at e;split at e
 ·rename_i h
  cases e;exact{by rw[<-z.length];exact h.2,λp o a=>q _ _ (Ah.laid a) (aL f a) (AB.fl f a (λ_ n=>n) h.1 z)}
 ·cases e
def x6(h:DA X c es f):DE X c g (.List es pos) (fA S Hy f):=(r9 h).imp λY H Q q=>eV (g:=g) sd q
end
end L2
namespace Ts
open PySem PyProof.Rows
section
variable{prog:Program}{w:World}{A:Around}{E:Value->Shared->Prop}{s:Shared}{L:KeyKind}{knd:SortKind}
def Dv(prog:Program)(w:World)(A:Around)(E:Value->Shared->Prop)(s:Shared)(L:KeyKind)(knd:SortKind):Prop:=
 ∀(st:SortSt) (x y:Keyed) (a b:L.α) (Q:Option Bool->SortSt->Prop),kindOf st=knd->L.keyOf x.1=some a->L.keyOf y.1=some b->Q (some (L.blt a b)) st->wpS 'r' A E s (lt' x y) Q st
instance ky(L:KeyKind)(x:Keyed):L.α:=(L.keyOf x.1).getD L.dflt
structure Bs(a₀:Array Keyed)(knd:SortKind)(P:Array (Nat×Nat×Nat))(st:SortSt):Prop where
 perm:(arrOf st).Perm a₀
 kind:kindOf st=knd
 fail:failedOf st=none
 pend:pendingOf st=P
variable{st:SortSt}
def Bs.size(B:Bs a₀ knd P st):(arrOf st).size=a₀.size:=B.perm.size_eq
def Bs.arr(B:Bs a₀ knd P st){a:Array Keyed}(h:a.Perm (arrOf st)):Bs a₀ knd P (setArr st a):={h.trans B.perm,B.kind,B.fail,B.pend}
def Bs.at(B:Bs a₀ knd P st)(d:KeysOf L a₀){i:Nat}(f:i<a₀.size):∃x a,(arrOf st)[i]?=some x/\L.keyOf x.1=some a/\KK L (arrOf st) i=a:=by
 have b:i<(arrOf st).size:=by rw[B.size];exact f
 have g:(arrOf st)[i]∈a₀.toList:=(Array.perm_iff_toList_perm.mp B.perm).mem_iff.mp (Array.getElem_mem_toList b);obtain⟨a,c⟩:=d _ g;have e:(arrOf st)[i]?=some (arrOf st)[i]:=Fe b;refine{_,a,e,c,?_};delta KK;rw[e];show (L.keyOf (arrOf st)[i].1).getD L.dflt=a;rw[c];rfl
def ew(C:Dv prog w A E s L knd)(c:KeysOf L a₀)(B:Bs a₀ knd P st){i j:Nat}(n:i<a₀.size)(e:j<a₀.size){Q:Option Bool->SortSt->Prop}(h:Q (some (L.blt (KK L (arrOf st) i) (KK L (arrOf st) j))) st):wpS 'r' A E s (ltAt' i j) Q st:=by
 obtain⟨x,a,l,f,o⟩:=B.at c n;obtain⟨y,b,g,m,d⟩:=B.at c e;rw[ltAt'_eq];refine af (wpS_get ?_);show wpS _ _ _ _ (elem' (arrOf st) i >>= λx=>elem' (arrOf st) j >>= λy=>lt' x y) Q st;rw[elem'_eq,elem'_eq,l,g];refine af (aj (af (aj (C st x y a b Q B.kind f m ?_))));rw[<-o,<-d];exact h
instance Up(L:KeyKind)(xs:Array Keyed)(lo hi:Nat):Prop:=∀i j,lo<=i->i<=j->j<hi->L.kle (KK L xs i) (KK L xs j)
instance Dn(L:KeyKind)(xs:Array Keyed)(lo hi:Nat):Prop:=∀i j,lo<=i->i<=j->j<hi->L.kle (KK L xs j) (KK L xs i)
def Up.one{c:Array Keyed}{a b:Nat}(h:b<=a+1):Up L c a b:=λi j e d f=>by
 have:i=j:=by omega
 subst this;exact KeyOrd.kle_refl _
def Up.snoc{b:Array Keyed}{a n:Nat}(h:Up L b a (a+n))(e:1<=n)(f:L.kle (KK L b (a+n-1)) (KK L b (a+n))):Up L b a (a+(n+1)):=λi j g1 g2 g3=>by
 by_cases d:j<a+n
 ·exact h i j g1 g2 d
 ·cases Fm (FF g3) (EE d)
  rcases Nat.lt_or_eq_of_le g2 with c | c
  ·exact KeyOrd.kle_trans (h i (a+n-1) g1 (Nat.le_sub_one_of_lt c) (Nat.sub_lt (A6 e (Fo n a)) Nat.one_pos)) f
  ·subst c;exact KeyOrd.kle_refl _
def Dn.snoc{b:Array Keyed}{a n:Nat}(h:Dn L b a (a+n))(e:1<=n)(f:L.kle (KK L b (a+n)) (KK L b (a+n-1))):Dn L b a (a+(n+1)):=λi j g1 g2 g3=>by
 by_cases d:j<a+n
 ·exact h i j g1 g2 d
 ·cases Fm (FF g3) (EE d)
  rcases Nat.lt_or_eq_of_le g2 with c | c
  ·exact KeyOrd.kle_trans f (h i (a+n-1) g1 (Nat.le_sub_one_of_lt c) (Nat.sub_lt (A6 e (Fo n a)) Nat.one_pos))
  ·subst c;exact KeyOrd.kle_refl _
def BK(xs ys:Array Keyed)(lo hi:Nat):Prop:=∀i,(i<lo\/hi<=i)->ys[i]?=xs[i]?
def gX{a:Array Keyed}{i j k:Nat}(b:j<=a.size):KK L (mirror a i j ((j-i) / 2)) k=if i<=k/\k<j then KK L a (i+j-1-k) else KK L a k:=KK_mirror b k
def kS(C:Dv prog w A E s L knd)(e:KeysOf L a₀)(B:Bs a₀ knd P st){d f a:Nat}(b:d+f<=a₀.size)(c:1<=a)(j:a<=f)(g:Up L (arrOf st) d (d+a)){Q:Option (Option Nat)×Nat->SortSt->Prop}(h:∀n,a<=n->n<=f->Up L (arrOf st) d (d+n)->(n=f\/L.blt (KK L (arrOf st) (d+n)) (KK L (arrOf st) (d+n-1))=true)->Q (none,n) st) :
 wpS 'r' A E s (forIn [a:f] ((none,a):Option (Option Nat)×Nat) λ_ r=>do
  let x <-ltAt' (d+r.2) (d+r.2-1)
  match x with
  | some b=>if b=true then pure (ForInStep.done (none,r.2)) else pure (ForInStep.yield (none,r.2+1))
  | _=>pure (ForInStep.done (some none,r.2))) Q st:=by
 refine aW (I:=λx c b=>b=st/\c=(none,x)/\Up L (arrOf st) d (d+x)) (λi c b m l hI129=>?_) (λc b hI128=>?_) ⟨rfl,rfl,g⟩
 ·obtain⟨l,c,g⟩:=hI129
  subst l c;refine af (ew C e B 'o' 'o' ?_);show wpS _ _ _ _ (if L.blt (KK L (arrOf b) (d+i)) (KK L (arrOf b) (d+i-1))=true then _ else _) _ _;cases e:L.blt (KK L (arrOf b) (d+i)) (KK L (arrOf b) (d+i-1))
  ·rw[if_neg BP]
   exact aj {rfl,rfl,g.snoc 'o' e}
  ·rw[if_pos rfl]
   exact aj (h i m 'o' g (.inr e))
 ·obtain⟨l,c,g⟩:=hI128
  subst l c;have e:max a f=f:=by omega
  rw[e] at g ⊢;exact h f j (Ap _) g (.inl rfl)
def BK.refl{a:Array Keyed}{b c:Nat}:BK a a b c:=λ_ _=>rfl
def BK.trans{f e g:Array Keyed}{c d:Nat}(a:BK f e c d)(b:BK e g c d):BK f g c d:=λi h=>(b i h).trans (a i h)
def BK.mir{a:Array Keyed}{b c p q:Nat}(d:q<=a.size)(e:b<=p)(f:q<=c):BK a (mirror a p q ((q-p) / 2)) b c:=λi h=>by
 rw[getElem?_mirror_all d,if_neg 'o']
def gY{p q k:Nat}(b:p<=k)(a:k<q):p<=p+q-1-k/\p+q-1-k<q:=by
 obtain⟨d,rfl⟩:=Nat.le.dest a;rw[show p+(k.succ+d)-1-k=p+d by omega];exact{CA p d,Nat.add_lt_add_right (Nat.lt_succ_of_le b) d}
def gZ{b:Array Keyed}{p q:Nat}{c:L.α}(d:q<=b.size)(h:∀i,p<=i->i<q->KK L b i=c)(k:Nat):KK L (mirror b p q ((q-p) / 2)) k=KK L b k:=by
 rw[gX d];by_cases a:p<=k/\k<q
 ·have z:=gY a.1 a.2
  rw[if_pos a,h k a.1 a.2,h _ z.1 z.2]
 ·rw[if_neg a]
def Dn.turn{b:Array Keyed}{a n:Nat}(e:a+n<=b.size)(h:Dn L b a (a+n)):Up L (mirror b a (a+n) ((a+n-a) / 2)) a (a+n):=λi j g1 g2 g3=>by
 have d:=Cb g2 g3;have c:=Az g1 g2;rw[gX e,gX e,if_pos ⟨g1,d⟩,if_pos ⟨c,g3⟩];exact h _ _ (gY c g3).1 (Nat.sub_le_sub_left g2 _) (gY g1 d).2
def Dn.congr{c a:Array Keyed}{b d:Nat}(h:Dn L c b d)(e:∀k,KK L a k=KK L c k):Dn L a b d:=λi j g1 g2 g3=>by rw[e i,e j];exact h i j g1 g2 g3
def kT(C:Dv prog w A E s L knd)(f:KeysOf L a₀)(B:Bs a₀ knd P st){a c n:Nat}(e:a+c<=a₀.size)(d:1<=n)(i:n<=c)(g:Dn L (arrOf st) a (a+n)){Q:Option Nat->SortSt->Prop}(h:∀m b,Bs a₀ knd P b->1<=m->m<=c->Up L (arrOf b) a (a+m)->BK (arrOf st) (arrOf b) a (a+c)->Q (some m) b) :
 wpS 'r' A E s (do
  reverseSlice' a (a+n)
  let r <-forIn [n:c] ((none,n):Option (Option Nat)×Nat) λ_ r=>do
   let x <-ltAt' (a+r.2) (a+r.2-1)
   match x with
   | some b=>if b=true then pure (ForInStep.done (none,r.2)) else pure (ForInStep.yield (none,r.2+1))
   | _=>pure (ForInStep.done (some none,r.2))
  match r.1 with
  | some r=>pure r
  | none=>pure (some r.2)) Q st:=by
 have b:a+n<=(arrOf st).size:=by rw[B.size];omega
 rw[reverseSlice'_eq];refine af (bq (af (kS C f (B.arr (mirror_perm _ _ _ _)) e d i (Dn.turn b g) λm g1 g2 g3 _=>?_)));exact aj (h m _ (B.arr (mirror_perm _ _ _ _)) 'o' g2 g3 (BK.mir b (Ap _) 'o'))
def kU(C:Dv prog w A E s L knd)(v:KeysOf L a₀)(B:Bs a₀ knd P st){b d n:Nat}(y:b+d<=a₀.size)(f:1<=n)(l:n<=d)(g:Dn L (arrOf st) b (b+n)){Q:Option Nat->SortSt->Prop}(h:∀m a,Bs a₀ knd P a->1<=m->m<=d->Up L (arrOf a) b (b+m)->BK (arrOf st) (arrOf a) b (b+d)->Q (some m) a) :
 wpS 'r' A E s (do
  liftM (rule "list.sort.descending-run")
  let r <-forIn [n:d] ((none,n,0):Option (Option Nat)×Nat×Nat) λ_ r=>do
   let x <-ltAt' (b+r.2.1) (b+r.2.1-1)
   match x with
   | some c=>
     if c=true then
      if r.2.2>0 then do
       reverseSlice' (b+r.2.1-(r.2.2+1)) (b+r.2.1)
       pure (ForInStep.yield (none,r.2.1+1,0))
      else pure (ForInStep.yield (none,r.2.1+1,0))
     else do
      let x <-ltAt' (b+r.2.1-1) (b+r.2.1)
      match x with
      | some e=>if e=true then pure (ForInStep.done (none,r.2.1,r.2.2)) else pure (ForInStep.yield (none,r.2.1+1,r.2.2+1))
      | _=>pure (ForInStep.done (some none,r.2.1,r.2.2))
   | _=>pure (ForInStep.done (some none,r.2.1,r.2.2))
  match r.1 with
  | some r=>pure r
  | none=>
    if r.2.2>0 then do
     reverseSlice' (b+r.2.1-(r.2.2+1)) (b+r.2.1)
     reverseSlice' b (b+r.2.1)
     let r <-forIn [r.2.1:d] ((none,r.2.1):Option (Option Nat)×Nat) λ_ r=>do
      let x <-ltAt' (b+r.2) (b+r.2-1)
      match x with
      | some c=>if c=true then pure (ForInStep.done (none,r.2)) else pure (ForInStep.yield (none,r.2+1))
      | _=>pure (ForInStep.done (some none,r.2))
     match r.1 with
     | some r=>pure r
     | none=>pure (some r.2)
    else do
     reverseSlice' b (b+r.2.1)
     let r <-forIn [r.2.1:d] ((none,r.2.1):Option (Option Nat)×Nat) λ_ r=>do
      let x <-ltAt' (b+r.2) (b+r.2-1)
      match x with
      | some c=>if c=true then pure (ForInStep.done (none,r.2)) else pure (ForInStep.yield (none,r.2+1))
      | _=>pure (ForInStep.done (some none,r.2))
     match r.1 with
     | some r=>pure r
     | none=>pure (some r.2)) Q st:=by
 refine af (wpS_lift (aZ {rfl,?_}));refine af (aS (aW (I:=λx c a=>∃q,c=(none,x,q)/\Bs a₀ knd P a/\x<=d/\Dn L (arrOf a) b (b+x)/\q+1<=x/\(∀i,b+x-(q+1)<=i->i<b+x->KK L (arrOf a) i=KK L (arrOf a) (b+x-1))/\BK (arrOf st) (arrOf a) b (b+d)) (Q:=λc a=>∃x q,c=(none,x,q)/\1<=x/\Bs a₀ knd P a/\x<=d/\Dn L (arrOf a) b (b+x)/\q+1<=x/\(∀i,b+x-(q+1)<=i->i<b+x->KK L (arrOf a) i=KK L (arrOf a) (b+x-1))/\BK (arrOf st) (arrOf a) b (b+d))
  (λx c a e d r=>?_) (λc a r=>?_) {0,rfl,B,l,g,f,λi g1 g2=>by rw[show i=b+n-1 by omega],BK.refl}) λc a r=>?_)
 ·obtain⟨q,e,f,d,c,u,n,l⟩:=r
  subst e;have p:b+x<=(arrOf a).size:=by rw[f.size];omega
  refine af (ew C v f (i:=b+x) (j:=b+x-1) 'o' 'o' ?_);show wpS _ _ _ _ (if L.blt (KK L (arrOf a) (b+x)) (KK L (arrOf a) (b+x-1))=true then _ else _) _ _;cases z:L.blt (KK L (arrOf a) (b+x)) (KK L (arrOf a) (b+x-1))
  ·rw[if_neg BP]
   refine af (ew C v f (i:=b+x-1) (j:=b+x) 'o' 'o' ?_);show wpS _ _ _ _ (if L.blt (KK L (arrOf a) (b+x-1)) (KK L (arrOf a) (b+x))=true then _ else _) _ _;cases o:L.blt (KK L (arrOf a) (b+x-1)) (KK L (arrOf a) (b+x))
   ·rw[if_neg BP]
    have g:KK L (arrOf a) (b+x)=KK L (arrOf a) (b+x-1):=L.total _ _ z o;refine aj {q+1,rfl,f,'o',c.snoc 'o' (by rw[g];exact KeyOrd.kle_refl _),'o',λi g1 g2=>?_,l};have o:b+(x+1)-1=b+x:=by omega
    rw[o,g];by_cases B:i=b+x
    ·rw[B,g]
    ·exact n i 'o' 'o'
   ·rw[if_pos rfl]
    exact aj {x,q,rfl,'o',f,d,c,u,n,l}
  ·rw[if_pos rfl]
   have B:L.kle (KK L (arrOf a) (b+x)) (KK L (arrOf a) (b+x-1)):=KeyOrd.kle_of_klt z;by_cases g:q>0
   ·show wpS _ _ _ _ (if q>0 then _ else _) _ _
    rw[if_pos g];show wpS _ _ _ _ (reverseSlice' (b+x-(q+1)) (b+x) >>= λ_=>pure (ForInStep.yield (none,x+1,0))) _ _;rw[reverseSlice'_eq];have o:∀k,KK L (mirror (arrOf a) (b+x-(q+1)) (b+x) ((b+x-(b+x-(q+1))) / 2)) k=KK L (arrOf a) k:=gZ p n;refine af (bq (aj {0,rfl,f.arr (mirror_perm _ _ _ _),'o',(c.congr o).snoc 'o' (by rw[o,o];exact B),'o',λi g1 g2=>?_,l.trans (BK.mir p 'o' 'o')}));rw[show i=b+(x+1)-1 by omega]
   ·show wpS _ _ _ _ (if q>0 then _ else _) _ _
    rw[if_neg g];refine aj {0,rfl,f,'o',c.snoc 'o' B,'o',λi g1 g2=>?_,l};rw[show i=b+(x+1)-1 by omega]
 ·obtain⟨q,e,f,d,c,u,n,l⟩:=r
  exact{_,q,e,'o',f,d,c,u,n,l}
 ·obtain⟨x,q,e,z,f,d,c,u,n,l⟩:=r
  subst e;have p:b+x<=(arrOf a).size:=by rw[f.size];omega
  by_cases g:q>0
  ·show wpS _ _ _ _ (if q>0 then _ else _) _ _
   rw[if_pos g];rw[reverseSlice'_eq (b+x-(q+1)) (b+x)];have o:∀k,KK L (mirror (arrOf a) (b+x-(q+1)) (b+x) ((b+x-(b+x-(q+1))) / 2)) k=KK L (arrOf a) k:=gZ p n;refine af (bq ?_);exact kT C v (f.arr (mirror_perm _ _ _ _)) y z d (c.congr o) λm a n u r e o2=>h m a n u r e (l.trans ((BK.mir p 'o' 'o').trans o2))
  ·show wpS _ _ _ _ (if q>0 then _ else _) _ _
   rw[if_neg g];exact kT C v f y z d c λm a n u r e o2=>h m a n u r e (l.trans o2)
open H in
def kW(C:Dv prog w A E s L knd)(e:KeysOf L a₀)(B:Bs a₀ knd P st){a c:Nat}(f:a+c<=a₀.size)(d:1<=c){Q:Option Nat->SortSt->Prop}(h:∀m b,Bs a₀ knd P b->1<=m->m<=c->Up L (arrOf b) a (a+m)->BK (arrOf st) (arrOf b) a (a+c)->Q (some m) b):wpS 'r' A E s (countRun' a c) Q st:=by
 rw[countRun'_eq];refine af ?_;refine kS C e B f (Ap 1) d (Up.one 'o') λn g1 g2 g3 g4=>?_
 dsimp only;by_cases b:n=c
 ·rw[if_pos (by rw[b];exact cg _)]
  exact aj (h n st B g1 g2 g3 BK.refl)
 rw[if_neg (by simpa using b)];have d:L.blt (KK L (arrOf st) (a+n)) (KK L (arrOf st) (a+n-1))=true:=g4.resolve_left b;by_cases u:n>1
 ·rw[if_pos u]
  refine af (ew C e B 'o' 'o' ?_);show wpS _ _ _ _ (if L.blt (KK L (arrOf st) a) (KK L (arrOf st) (a+n-1))=true then _ else _) _ _;cases b:L.blt (KK L (arrOf st) a) (KK L (arrOf st) (a+n-1));case true=>
   rw[if_pos rfl];exact aj (h n st B g1 g2 g3 BK.refl)
  rw[if_neg BP];have p:a+n<=(arrOf st).size:=by rw[B.size];omega
  have same:∀i,a<=i->i<a+n->KK L (arrOf st) i=KK L (arrOf st) a:=λi c o=>by
   have g:=g3 a i (Ap _) c o;have j:=KeyOrd.kle_trans (g3 i (a+n-1) c 'o' 'o') b;exact KeyOrd.kle_antisymm j g
  have b:=gZ p same;rw[reverseSlice'_eq a (a+n)];refine af (bq ?_);have g:Dn L (arrOf st) a (a+n):=λi j c o q=>by rw[same i c 'o',same j 'o' q];exact KeyOrd.kle_refl _
  have l:=kU (Q:=Q) C e (B.arr (mirror_perm _ _ _ _)) f (n:=n+1) 'o' 'o' ((g.congr b).snoc g1 (by rw[b,b];exact KeyOrd.kle_of_klt d)) λm b x y r v o2=>h m b x y r v ((BK.mir p (Ap _) 'o').trans o2)
  refine Eq.mp ?_ l;congr 1;congr 1;funext _u;congr 1;funext i;obtain⟨p,x,v⟩:=i;cases p with
  | some r=>rfl
  | none=>
    dsimp only;split
    ·congr 1;funext _v;congr 1;funext _v;congr 1;funext j;obtain⟨b,m⟩:=j;cases b<;>rfl
    ·congr 1;funext _v;congr 1;funext j;obtain⟨b,m⟩:=j;cases b<;>rfl
 ·rw[if_neg u]
  have y:n=1:=by omega
  have g:Dn L (arrOf st) a (a+n):=λi j c o q=>by
   have:i=j:=by omega
   subst this;exact KeyOrd.kle_refl _
  have l:=kU (Q:=Q) C e B f (n:=n+1) 'o' 'o' (g.snoc g1 (KeyOrd.kle_of_klt d)) h;refine Eq.mp ?_ l;congr 1;congr 1;funext _u;congr 1;funext i;obtain⟨p,x,v⟩:=i;cases p with
  | some r=>rfl
  | none=>
    dsimp only;split
    ·congr 1;funext _v;congr 1;funext _v;congr 1;funext j;obtain⟨b,m⟩:=j;cases b<;>rfl
    ·congr 1;funext _v;congr 1;funext j;obtain⟨b,m⟩:=j;cases b<;>rfl
end
section
variable{knd:SortKind}{st:SortSt}
def g7{b:Array Keyed}{a d k:Nat}(e:a<b.size)(c:d<=a):KK L (bubble b a d) k=if k=a-d then KK L b a else if a-d<k/\k<=a then KK L b (k-1) else KK L b k:=KK_bubble e c k
open H in
theorem Up.of_next{a:Array Keyed}{c e:Nat}(h:∀i,c<=i->i+1<e->L.kle (KK L a i) (KK L a (i+1))):Up L a c e:=λi j f b=>by
 obtain⟨d,rfl⟩:=Nat.le.dest b;clear b;induction d with
 | zero=>exact λ_=>KeyOrd.kle_refl _
 | succ d g=>exact λb=>KeyOrd.kle_trans (g (Nat.lt_of_succ_lt b)) (h (i+d) (Az f (CA i d)) b)
section
variable{xs:Array Keyed}{lo l d t:Nat}
def kX(b:lo+(l+d)<xs.size)(h:t<l):KK L (bubble xs (lo+(l+d)) d) (lo+t)=KK L xs (lo+t):=by
 have a:=EC h lo;rw[g7 b (Az (Fo d l) (Fo _ lo)),<-Eh,Nat.add_sub_cancel,if_neg (Br a),if_neg λz=>Nat.lt_asymm a z.1]
def kY(a:lo+(l+d)<xs.size):KK L (bubble xs (lo+(l+d)) d) (lo+l)=KK L xs (lo+(l+d)):=by
 rw[g7 a (Az (Fo d l) (Fo _ lo)),if_pos (by rw[<-Eh,Nat.add_sub_cancel])]
def g8(b:lo+(l+d)<xs.size)(a:l<=t)(c:t<l+d):KK L (bubble xs (lo+(l+d)) d) (lo+(t+1))=KK L xs (lo+t):=by
 have a:=EC (Nat.lt_succ_of_le a) lo;rw[g7 b (Az (Fo d l) (Fo _ lo)),<-Eh lo l,Nat.add_sub_cancel,if_neg (Nat.ne_of_gt a),if_pos {a,by rw[Eh];exact Dt c lo}];rfl
open H in
def Up.ins{k:Nat}(a:lo+k<xs.size)(b:l<=k)(u:Up L xs lo (lo+k))(e:∀i,i<l->L.kle (KK L xs (lo+i)) (KK L xs (lo+k)))(c:∀i,l<=i->i<k->L.kle (KK L xs (lo+k)) (KK L xs (lo+i))):Up L (bubble xs (lo+k) (k-l)) lo (lo+(k+1)):=by
 obtain⟨d,rfl⟩:=Nat.le.dest b;rw[G8];refine Up.of_next λi f b=>?_
 obtain⟨t,rfl⟩:=Nat.le.dest f;have b:t<l+d:=Nat.lt_of_add_lt_add_left (n:=lo) (Gv b);have i:=u (lo+t) (lo+(t+1)) f (Fs _);rcases Nat.lt_trichotomy t l with h | h | h
 ·rw[kX a h,Eh]
  rcases Nat.lt_or_eq_of_le (Nat.succ_le_of_lt h) with g | g
  ·rw[kX a g];exact i (EC (A6 g (CA l d)) lo)
  ·rw[show lo+(t+1)=lo+l by rw[<-g],kY a];exact e t h
 ·subst h
  rw[kY a,Eh,g8 a (Ap _) b];exact c t (Ap _) b
 ·obtain⟨t,rfl⟩:∃u,t=u+1:={t-1,(Nat.succ_pred (Nat.ne_of_gt (Cb (AF l) h))).symm}
  have h:=FF h;rw[g8 a h (Nat.lt_of_succ_lt b),Eh,g8 a (Nat.le_succ_of_le h) b];exact u (lo+t) (lo+(t+1)) (CA _ _) (Fs _) (EC b lo)
end
def mid{l r:Nat}(h:l<r):l<=(l+r) / 2/\(l+r) / 2<r:=by omega
def kZ(C:Dv prog w A E s L knd)(T:KeysOf L a₀)(B:Bs a₀ knd P st){d n J:Nat}(a:d+n<=a₀.size)(c:J<=n)(U:Up L (arrOf st) d (d+J)){Q:Bool->SortSt->Prop}(h:∀f,Bs a₀ knd P f->Up L (arrOf f) d (d+n)->BK (arrOf st) (arrOf f) d (d+n)->Q true f):wpS 'r' A E s (binarySort' d n J) Q st:=by
 rw[binarySort'_eq];refine af (aS (aW (I:=λk c f=>c=(none,())/\Bs a₀ knd P f/\Up L (arrOf f) d (d+min k n)/\BK (arrOf st) (arrOf f) d (d+n)) (Q:=λc f=>c=(none,())/\Bs a₀ knd P f/\Up L (arrOf f) d (d+n)/\BK (arrOf st) (arrOf f) d (d+n)) (λk c f e u q=>?_) (λc f q=>?_) {rfl,B,?_,BK.refl}) λc f q=>?_)
 ·obtain⟨e,y,g,B⟩:=q
  subst e;rw[Fk (BB u)] at g;have O:∀{i},i<=k->d+i<a₀.size:=λh=>A6 (EC (Cb h u) d) a
  have E:d+k<(arrOf f).size:=by rw[y.size];exact O (Ap k)
  refine af (aS (aW (I:=λx c a=>a=f/\∃l r,c=(none,l,r)/\l<=r/\r<=k/\r+x<=l+k/\(∀i,i<l->L.kle (KK L (arrOf f) (d+i)) (KK L (arrOf f) (d+k)))/\∀i,r<=i->i<k->L.kle (KK L (arrOf f) (d+k)) (KK L (arrOf f) (d+i))) (Q:=λc a=>a=f/\∃l r,c=(none,l,r)/\l<=k/\(∀i,i<l->L.kle (KK L (arrOf f) (d+i)) (KK L (arrOf f) (d+k)))/\∀i,l<=i->i<k->L.kle (KK L (arrOf f) (d+k)) (KK L (arrOf f) (d+i))) (λx c a m o q=>?_) (λc a q=>?_) {rfl,0,k,rfl,AF k,Ap k,BQ (Cq k 0),λi P=>(Fj i P).elim,λi g1 g2=>(Dd i (A6 g2 g1)).elim}) λc a q=>?_)
  ·obtain⟨A,l,r,z,v,s,N,p,o⟩:=q
   subst A z;dsimp only;by_cases m:l>=r
   ·rw[if_pos m]
    have:=Fm v m;subst this;exact aj ⟨rfl,l,l,rfl,s,p,o⟩
   ·rw[if_neg m]
    obtain⟨R,G⟩:=mid (Nat.lt_of_not_le m);generalize (l+r) / 2=m at R G;have M:=A6 G s;refine af (ew C T y (i:=d+k) (j:=d+m) (O (Ap k)) (O (BB M)) ?_);show wpS _ _ _ _ (if L.blt (KK L (arrOf a) (d+k)) (KK L (arrOf a) (d+m))=true then _ else _) _ _;cases C:L.blt (KK L (arrOf a) (d+k)) (KK L (arrOf a) (d+m))
    ·rw[if_neg BP]
     refine aj {rfl,m+1,r,rfl,G,s,'o',λi g1=>?_,o};exact KeyOrd.kle_trans (g (d+i) (d+m) (CA d i) (Dt (FF g1) d) (EC M d)) C
    ·rw[if_pos rfl]
     refine aj {rfl,l,m,rfl,R,BB M,(by show m+x+1<=l+k;rw[Nat.add_right_comm];exact Az (Nat.add_le_add_right G x) N),p,λi g1 g2=>?_};exact KeyOrd.kle_trans (KeyOrd.kle_of_klt C) (g (d+m) (d+i) (CA d m) (Dt g1 d) (EC g2 d))
  ·obtain⟨A,l,r,z,v,s,N,p,o⟩:=q
   have:=Fm v (Nat.le_of_add_le_add_right (b:=k) (by simpa using N));subst this;exact⟨A,l,l,z,s,p,o⟩
  ·obtain⟨A,l,r,z,m,p,o⟩:=q
   subst A z;show wpS _ _ _ _ (moveDown' (d+k) (d+l) >>= λ_=>pure (ForInStep.yield (none,()))) _ _;rw[moveDown'_eq];have r:d+k-(d+l)<=d+k:=Nat.sub_le _ _;refine af (bq (aj {rfl,y.arr (bubble_perm _ _ _),?_,B.trans λi P=>?_}))
   ·rw[Fk u,Nat.add_sub_add_left]
    exact Up.ins E m g p o
   ·show (bubble (arrOf a) (d+k) (d+k-(d+l)))[i]?=_
    rw[Nat.add_sub_add_left] at r ⊢;have z:d<=i->i<=d+k->False:=λa b=>P.elim (λc=>Dd i (A6 c a)) λc=>Dd i (Cb b (A6 (EC u d) c))
    have e:d+k-(k-l)=d+l:=by omega
    rw[getElem?_bubble E _ r,e,if_neg λc=>z (by rw[c];exact CA d l) (by rw[c];exact Dt m d),if_neg λc=>z (Az (CA d l) (BB c.1)) c.2]
 ·obtain⟨e,y,g,B⟩:=q
  rw[Nat.min_eq_right (Nat.le_max_right _ n)] at g;exact⟨e,y,g,B⟩
 ·by_cases a:J=0
  ·exact Up.one 'o'
  ·exact λi j g1 g2 g3=>U i j g1 g2 'o'
 ·obtain⟨e,y,g,B⟩:=q
  subst e;exact aj (h f y g B)
end
local macro_rules
 | `(tactic| omega)=>`(tactic| omega +splitDisjunctions)
abbrev SM:=StateT SortSt Sem
def Ek:Bool->Keyed->Array Keyed->Nat->Nat->Nat->SM (Option Nat):=sortPriv% PySem.Builtin.gallop
instance far(left:Bool)(key:Keyed)(arr:Array Keyed)(base i:Nat):SM (Option Bool):=do
 let x <-elem' arr (base+i)
 if left then lt' x key else return (<-lt' key x).map (!·)
def Hz(left:Bool)(key:Keyed)(arr:Array Keyed)(base n p0 q0:Nat):SM (Option Nat):=do
 let mut p:=p0
 let mut q:=q0
 for _ in [0:n] do
  if p>=q then break
  let m:=p+(q-p) / 2
  let some y <-far left key arr base m | return none
  if y then p:=m+1 else q:=m
 return some q
def se(left:Bool)(d:Keyed)(c:Array Keyed)(b n a:Nat):Ek left d c b n a=(do
 let mut u:=0
 let mut v:=1
 let some r <-far left d c b a | return none
 if r then
  for _ in [0:n] do
   if v>=n-a then break
   let some y <-far left d c b (a+v) | return none
   if !y then break
   u:=v
   v:=2*v+1
  Hz left d c b n (a+u+1) (a+min v (n-a))
 else
  for _ in [0:n] do
   if v>=a+1 then break
   let some y <-far left d c b (a-v) | return none
   if y then break
   u:=v
   v:=2*v+1
  Hz left d c b n (a+1-min v (a+1)) (a-u)):=rfl
section
variable{prog:Program}{w:World}{A:Around}{E:Value->Shared->Prop}{s:Shared}{L:KeyKind}{knd:SortKind}{st:SortSt}{left:Bool}{key:Keyed}{arr:Array Keyed}{base n:Nat}{f:Nat->Bool}
structure Cut(prog:Program)(w:World)(A:Around)(E:Value->Shared->Prop)(s:Shared)(knd:SortKind)(left:Bool)(key:Keyed)(arr:Array Keyed)(base n:Nat)(f:Nat->Bool):Prop where
 far:∀(i:Nat) (st:SortSt) (Q:Option Bool->SortSt->Prop),i<n->kindOf st=knd->Q (some (f i)) st->wpS 'r' A E s (far left key arr base i) Q st
 mono:∀i j,i<=j->j<n->f j=true->f i=true
def sg{p q:Nat}(h:p<q):p<=p+(q-p) / 2/\p+(q-p) / 2<q:=by omega
def sj{u v h n:Nat}(b:h+u<n)(c:u<v):h+u+1<=h+min v (n-h)/\h+min v (n-h)<=n:=
 have a:=Cb (CA h u) b
 {Dt (Nat.le_min.mpr {c,Nat.le_sub_of_add_le (by rw[Nat.succ_add,Cq];exact b)}) h,Az (Dt (Nat.min_le_right _ _) h) (BQ (FC (BB a)))}
def sk{u v h:Nat}(b:u<=h)(a:u<v):h+1-min v (h+1)<=h-u:=by
 have:=Nat.sub_le_sub_left (Nat.le_min.mpr {a,Fi b}) (h+1);rwa [Nat.add_sub_add_right] at this
def k6(F:Cut prog w A E s knd left key arr base n f)(r:kindOf st=knd){p q:Nat}(e:p<=q)(l:q<=n)(g:∀i,i<p->f i=true)(j:∀i,q<=i->i<n->f i=false){Q:Option Nat->SortSt->Prop}(h:∀k,k<=n->(∀i,i<k->f i=true)->(∀i,k<=i->i<n->f i=false)->Q (some k) st):wpS 'r' A E s (Hz left key arr base n p q) Q st:=by
 delta Hz;refine af (aS (aW (I:=λx c a=>a=st/\∃p q,c=(none,p,q)/\p<=q/\q<=n/\q+x<=p+n/\(∀i,i<p->f i=true)/\∀i,q<=i->i<n->f i=false) (Q:=λc a=>a=st/\∃p,c=(none,p,p)/\p<=n/\(∀i,i<p->f i=true)/\∀i,p<=i->i<n->f i=false) (λx c a m o d=>?_) (λc a d=>?_) {rfl,p,q,rfl,e,l,Az l (Fo n p),g,j}) λc a d=>?_)
 ·obtain⟨g,p,q,e,g1,g2,g3,g4,c⟩:=d
  subst g e;dsimp only;by_cases a:p>=q
  ·rw[if_pos a]
   cases Fm g1 a;exact aj ⟨rfl,p,rfl,g2,g4,c⟩
  ·rw[if_neg a]
   obtain⟨o,j⟩:=sg (Nat.lt_of_not_le a);generalize p+(q-p) / 2=m at o j;have l:=A6 j g2;refine af (F.far _ _ _ l r ?_);show wpS _ _ _ _ (if f m=true then _ else _) _ _;cases r:f m
   ·rw[if_neg BP]
    refine aj {rfl,p,m,rfl,o,BB l,Az (BQ (Nat.add_right_comm m x 1)) (Az (Nat.add_le_add_right j x) g3),g4,λi a u=>?_};cases v:f i
    ·rfl
    ·rw[F.mono _ i a u v] at r;cases r
   ·rw[if_pos rfl]
    refine aj {rfl,m+1,q,rfl,j,g2,Az (Fi g3) (Az (Fi (Nat.add_le_add_right o n)) (BQ (Nat.add_right_comm m n 1))),λi a=>?_,c};exact F.mono i _ (FF a) l r
 ·obtain⟨g,p,q,e,g1,g2,g3,g4,c⟩:=d
  cases Fm g1 (Nat.le_of_add_le_add_right (b:=n) (by simpa using g3));exact⟨g,p,e,g2,g4,c⟩
 ·obtain⟨g,p,e,g2,g4,c⟩:=d
  subst g e;exact aj (h p g2 g4 c)
def da(F:Cut prog w A E s knd left key arr base n f)(y:kindOf st=knd){a:Nat}(p:a<n){Q:Option Nat->SortSt->Prop}(h:∀k,k<=n->(∀i,i<k->f i=true)->(∀i,k<=i->i<n->f i=false)->Q (some k) st):wpS 'r' A E s (Ek left key arr base n a) Q st:=by
 rw[se];have G:∀i,i<n->f i=false->∀j,i<=j->j<n->f j=false:=λi l o j b d=>by
  cases c:f j
  ·rfl
  ·rw[F.mono i j b d c] at o;cases o
 have r:∀{x v:Nat},x<v->v<2*v+1/\x+1<2*v+1:=λh=>{Nat.lt_succ_of_le (Nat.le_mul_of_pos_left _ (Nat.succ_pos 1)),Nat.succ_lt_succ (A6 h (Nat.le_mul_of_pos_left _ (Nat.succ_pos 1)))}
 refine af (F.far a _ _ p y ?_);dsimp only;cases J:f a
 ·rw[if_neg BP]
  refine af (aS (aW (I:=λx c b=>b=st/\∃u v,c=(none,u,v)/\u<=a/\f (a-u)=false/\u<v/\x<v) (Q:=λc b=>b=st/\∃u v,c=(none,u,v)/\u<=a/\f (a-u)=false/\u<v/\(v>=a+1\/f (a-v)=true)) (λx c b B C g=>?_) (λc b g=>?_) {rfl,0,1,rfl,AF _,J,Nat.succ_pos 0,Nat.succ_pos 0}) λc b g=>?_)
  ·obtain⟨e,u,v,d,g1,g2,g3,g4⟩:=g
   subst e d;dsimp only;by_cases j:v>=a+1
   ·rw[if_pos j]
    exact aj {rfl,u,v,rfl,g1,g2,g3,.inl j}
   ·rw[if_neg j]
    refine af (F.far _ _ _ (Cb (Nat.sub_le _ _) p) y ?_);show wpS _ _ _ _ (if f (a-v)=true then _ else _) _ _;cases o:f (a-v)
    ·rw[if_neg BP]
     exact aj {rfl,v,2*v+1,rfl,FF (Nat.lt_of_not_le j),o,r g4}
    ·rw[if_pos rfl]
     exact aj {rfl,u,v,rfl,g1,g2,g3,.inr o}
  ·obtain⟨e,u,v,d,g1,g2,g3,g4⟩:=g
   exact{e,u,v,d,g1,g2,g3,.inl (Az p (BB (Cb (Nat.le_max_right 0 n) g4)))}
  ·obtain⟨e,u,v,d,g1,g2,g3,g4⟩:=g
   subst e d;have z:=Cb (Nat.sub_le a u) p;refine k6 F y (sk g1 g3) (BB z) (λi l=>?_) (λi m q=>G _ z g2 i m q) h;rcases g4 with g4 | g4
   ·rw[Nat.min_eq_right g4,Nat.sub_self] at l;exact(Fj i l).elim
   ·by_cases z:v<=a+1
    ·rw[Fk z] at l
     exact F.mono i (a-v) (Nat.le_sub_of_add_le (FF (Gx l))) (Cb (Nat.sub_le _ _) p) g4
    ·rw[Nat.min_eq_right (Nat.le_of_not_le z),Nat.sub_self] at l;exact(Fj i l).elim
 ·rw[if_pos rfl]
  refine af (aS (aW (I:=λx c b=>b=st/\∃u v,c=(none,u,v)/\a+u<n/\f (a+u)=true/\u<v/\x<v) (Q:=λc b=>b=st/\∃u v,c=(none,u,v)/\a+u<n/\f (a+u)=true/\u<v/\(v>=n-a\/a+v<n/\f (a+v)=false)) (λx c b B C g=>?_) (λc b g=>?_) {rfl,0,1,rfl,p,J,Nat.succ_pos 0,Nat.succ_pos 0}) λc b g=>?_)
  ·obtain⟨e,u,v,d,g1,g2,g3,g4⟩:=g
   subst e d;dsimp only;by_cases j:v>=n-a
   ·rw[if_pos j]
    exact aj {rfl,u,v,rfl,g1,g2,g3,.inl j}
   ·rw[if_neg j]
    have b:a+v<n:=by rw[Cq];exact Gx (Nat.lt_of_not_le j)
    refine af (F.far _ _ _ b y ?_);show wpS _ _ _ _ (if (!f (a+v))=true then _ else _) _ _;cases o:f (a+v)
    ·rw[if_pos (show (!false)=true from rfl)]
     exact aj {rfl,u,v,rfl,g1,g2,g3,.inr ⟨b,o⟩}
    ·rw[if_neg 'z']
     exact aj {rfl,v,2*v+1,rfl,b,o,r g4}
  ·obtain⟨e,u,v,d,g1,g2,g3,g4⟩:=g
   exact{e,u,v,d,g1,g2,g3,.inl (Az (Nat.sub_le n a) (BB (Cb (Nat.le_max_right 0 n) g4)))}
  ·obtain⟨e,u,v,d,g1,g2,g3,g4⟩:=g
   subst e d;obtain⟨m,q⟩:=sj g1 g3;refine k6 F y m q (λi l=>F.mono i (a+u) (FF l) g1 g2) (λi m q=>?_) h;rcases g4 with g4 | ⟨g4,b⟩
   ·rw[Nat.min_eq_right g4,FC (BB p)] at m;exact(Dd i (A6 q m)).elim
   ·rw[Fk (BB (Nat.lt_sub_of_add_lt (Cq v a▸g4)))] at m;exact G _ g4 b i m q
end
end Ts
namespace Ts
open PySem PyProof.Rows
instance mlo:Array Keyed->Array Keyed->SM (Array Keyed):=sortPriv% PySem.Builtin.mergeLo
def ET(g:Nat):SM Unit:=(sortPriv% PySem.Builtin.setMinGallop) g
abbrev Cm(a b out:Array Keyed)(ia ib:Nat):Array Keyed:=out++a.extract ia a.size++b.extract ib b.size
abbrev Eu(a b out:Array Keyed)(ia ib:Nat):Array Keyed:=out++b.extract ib b.size++a.extract ia a.size
def sm(a b:Array Keyed):mlo a b=(do
 rule "list.sort.merge-lo"
 let mut out:Array Keyed:=#[<-elem' b 0]
 let mut ia:=0
 let mut ib:=1
 if ib == b.size then return Cm a b out ia ib
 if ia+1 == a.size then return Eu a b out ia ib
 let mut mg:=gallopOf (<-get)
 for _ in [0:a.size+b.size] do
  let mut ca:=0
  let mut cb:=0
  for _ in [0:a.size+b.size] do
   let some y <-lt' (<-elem' b ib) (<-elem' a ia) | return Cm a b out ia ib
   if y then
    out:=out.push (<-elem' b ib)
    ib:=ib+1
    cb:=cb+1
    ca:=0
    if ib == b.size then return Cm a b out ia ib
    if cb>=mg then break
   else
    out:=out.push (<-elem' a ia)
    ia:=ia+1
    ca:=ca+1
    cb:=0
    if ia+1 == a.size then return Eu a b out ia ib
    if ca>=mg then break
  rule "list.sort.gallop"
  mg:=mg+1
  for _ in [0:a.size+b.size] do
   if mg>1 then mg:=mg-1
   ET mg
   let some k <-Ek false (<-elem' b ib) a ia (a.size-ia) 0 | return Cm a b out ia ib
   ca:=k
   if k>0 then
    out:=out++a.extract ia (ia+k)
    ia:=ia+k
    if ia+1 == a.size then return Eu a b out ia ib
    if ia == a.size then return Cm a b out ia ib
   out:=out.push (<-elem' b ib)
   ib:=ib+1
   if ib == b.size then return Cm a b out ia ib
   let some k <-Ek true (<-elem' a ia) b ib (b.size-ib) 0 | return Cm a b out ia ib
   cb:=k
   if k>0 then
    out:=out++b.extract ib (ib+k)
    ib:=ib+k
    if ib == b.size then return Cm a b out ia ib
   out:=out.push (<-elem' a ia)
   ia:=ia+1
   if ia+1 == a.size then return Eu a b out ia ib
   if ca<7&&cb<7 then break
  mg:=mg+1
  ET mg
 unsupported "internal:list.sort.merge-bound"):=rfl
section
variable{L:KeyKind}{a b:Array Keyed}{out:List Keyed}{ia ib:Nat}
abbrev le(L:KeyKind)(x y:Keyed):Prop:=L.kle (ky L x) (ky L y)
def aD{c:Array Keyed}{i:Nat}(h:i<c.size):KK L c i=ky L c[i]:=by
 delta KK ky;rw[Fe h]
structure Mg(L:KeyKind)(a b:Array Keyed)(out:List Keyed)(ia ib:Nat):Prop where
 perm:(out++(a.toList.drop ia++b.toList.drop ib)).Perm (a.toList++b.toList)
 up:out.Pairwise (le L)
 la:∀x∈out,∀i,ia<=i->i<a.size->L.kle (ky L x) (KK L a i)
 lb:∀x∈out,∀i,ib<=i->i<b.size->L.kle (ky L x) (KK L b i)
def ft{c:Array Keyed}{i:Nat}(h:i<c.size):c.toList.drop i=c[i]::c.toList.drop (i+1):=by
 rw[List.drop_eq_getElem_cons (by simpa using h)];simp
def g9{x:Keyed}(c:out.Pairwise (le L))(h:∀z∈out,le L z x):(out++[x]).Pairwise (le L):=
 EB.mpr {c,Ha _ _,λz d y c=>by rw[Bd.mp c];exact h z d}
def Mg.pushA(m:Mg L a b out ia ib)(l:Up L a 0 a.size)(e:ia<a.size)(h:∀j,ib<=j->j<b.size->L.kle (KK L a ia) (KK L b j)):Mg L a b (out++[a[ia]]) (ia+1) ib:=by
 refine{?_,g9 m.up λz g=>?_,λx c i f d=>?_,λx c i f d=>?_}
 ·have:=m.perm
  rw[ft e] at this;simpa [BH] using this
 ·have:=m.la z g ia (Ap _) e
  rwa [aD e] at this
 ·rcases BN.mp c with c | c
  ·exact m.la x c i 'o' d
  ·rw[Bd.mp c,<-aD e]
   exact l ia i (AF _) 'o' d
 ·rcases BN.mp c with c | c
  ·exact m.lb x c i f d
  ·rw[Bd.mp c,<-aD e]
   exact h i f d
def Mg.pushB(m:Mg L a b out ia ib)(g:Up L b 0 b.size)(e:ib<b.size)(h:∀j,ia<=j->j<a.size->L.kle (KK L b ib) (KK L a j)):Mg L a b (out++[b[ib]]) ia (ib+1):=by
 refine{?_,g9 m.up λz j=>?_,λx c i f d=>?_,λx c i f d=>?_}
 ·have:=m.perm
  rw[ft e] at this;refine List.Perm.trans ?_ this;rw[BH];exact List.Perm.append_left _ (show (b[ib]::(a.toList.drop ia++b.toList.drop (ib+1))).Perm _ from List.perm_middle.symm)
 ·have:=m.lb z j ib (Ap _) e
  rwa [aD e] at this
 ·rcases BN.mp c with c | c
  ·exact m.la x c i f d
  ·rw[Bd.mp c,<-aD e]
   exact h i f d
 ·rcases BN.mp c with c | c
  ·exact m.lb x c i 'o' d
  ·rw[Bd.mp c,<-aD e]
   exact g ib i (AF _) 'o' d
def k7{c:Array Keyed}{i k:Nat}(h:i+k<c.size):(c.toList.drop i).take (k+1)=(c.toList.drop i).take k++[c[i+k]]:=by
 rw[Cc,List.getElem?_drop];simp[Fe h]
theorem Mg.takeA(m:Mg L a b out ia ib)(c:Up L a 0 a.size):∀k,ia+k<=a.size->(∀i,i<k->∀j,ib<=j->j<b.size->L.kle (KK L a (ia+i)) (KK L b j))->Mg L a b (out++(a.toList.drop ia).take k) (ia+k) ib
 | 0,_,_=>by simpa using m
 | k+1,e,h=>by
   have d:=Mg.takeA m c k 'o' λi e=>h i 'o'
   have:=d.pushA c 'o' (h k 'o');rw[k7 'o',<-BH];exact this
theorem Mg.takeB(m:Mg L a b out ia ib)(c:Up L b 0 b.size):∀k,ib+k<=b.size->(∀i,i<k->∀j,ia<=j->j<a.size->L.kle (KK L b (ib+i)) (KK L a j))->Mg L a b (out++(b.toList.drop ib).take k) ia (ib+k)
 | 0,_,_=>by simpa using m
 | k+1,e,h=>by
   have d:=Mg.takeB m c k 'o' λi e=>h i 'o'
   have:=d.pushB c 'o' (h k 'o');rw[k7 'o',<-BH];exact this
def Ev(L:KeyKind)(a b:Array Keyed)(r:List Keyed):Prop:=r.Perm (a.toList++b.toList)/\r.Pairwise (le L)
def fu{c:Array Keyed}{i:Nat}(u:Up L c 0 c.size):(c.toList.drop i).Pairwise (le L):=by
 rw[FY];intro p q e f d;rw[List.length_drop,Ee] at e f;have:=u (i+p) (i+q) (AF _) 'o' 'o';rw[aD 'o',aD 'o'] at this;simpa [List.getElem_drop] using this
def db{c:Array Keyed}{i:Nat}{x:Keyed}(h:x∈c.toList.drop i):∃j,i<=j/\j<c.size/\ky L x=KK L c j:=by
 obtain⟨j,d,e⟩:=List.getElem_of_mem h;rw[List.length_drop,Ee] at d;refine{i+j,'o','o',?_};rw[aD 'o',<-e];simp[List.getElem_drop]
def Mg.doneB(m:Mg L a b out ia ib)(d:Up L a 0 a.size)(h:b.size<=ib):Ev L a b (out++a.toList.drop ia++b.toList.drop ib):=by
 have c:b.toList.drop ib=[]:=List.drop_eq_nil_of_le (by simpa using h);refine{by rw[BH];exact m.perm,?_};rw[c,Cp];refine EB.mpr {m.up,fu d,λx g y c=>?_};obtain⟨j,d,f,e⟩:=db (L:=L) c;show L.kle (ky L x) (ky L y);rw[e];exact m.la x g j d f
def Mg.doneA(m:Mg L a b out ia ib)(d:Up L b 0 b.size)(h:a.size<=ia):Ev L a b (out++a.toList.drop ia++b.toList.drop ib):=by
 have c:a.toList.drop ia=[]:=List.drop_eq_nil_of_le (by simpa using h);refine{by rw[BH];exact m.perm,?_};rw[c,Cp];refine EB.mpr {m.up,fu d,λx g y c=>?_};obtain⟨j,f,d,e⟩:=db (L:=L) c;show L.kle (ky L x) (ky L y);rw[e];exact m.lb x g j f d
def Mg.last(m:Mg L a b out ia ib)(d:Up L b 0 b.size)(h:ia+1=a.size)(i:∀j,j<b.size->L.kle (KK L b j) (KK L a ia)):Ev L a b (out++b.toList.drop ib++a.toList.drop ia):=by
 have c:a.toList.drop ia=[a[ia]]:=by rw[ft 'o',List.drop_eq_nil_of_le (by simp;omega)]
 refine{?_,?_}
 ·refine List.Perm.trans ?_ m.perm
  rw[BH];exact List.Perm.append_left _ List.perm_append_comm
 ·rw[c]
  refine g9 (EB.mpr {m.up,fu d,λx h y g=>?_}) λz c=>?_
  ·obtain⟨j,f,d,e⟩:=db (L:=L) g
   show L.kle (ky L x) (ky L y);rw[e];exact m.lb x h j f d
  ·show L.kle (ky L z) (ky L a[ia])
   rw[<-aD 'o'];rcases BN.mp c with c | c
   ·exact m.la z c ia (Ap _) 'o'
   ·obtain⟨j,f,d,e⟩:=db (L:=L) c
    rw[e];exact i j d
end
section
variable{prog:Program}{w:World}{A:Around}{E:Value->Shared->Prop}{s:Shared}{L:KeyKind}{knd:SortKind}{st:SortSt}{a b:Array Keyed}
structure BE(st st':SortSt):Prop where
 arr:arrOf st'=arrOf st
 pend:pendingOf st'=pendingOf st
 fail:failedOf st'=failedOf st
 kind:kindOf st'=kindOf st
def BE.refl:BE st st:=⟨rfl,rfl,rfl,rfl⟩
def sr(g:Nat):ET g=modify λs=>SortSt.mk' (kindOf s) (arrOf s) (pendingOf s) g (failedOf s):=rfl
def fw{c:SortSt}{g:Nat}{Q:Unit->SortSt->Prop}(l:BE c st)(h:∀d,BE c d->Q () d):wpS 'r' A E s (ET g) Q st:=by
 rw[sr];exact bq (h _ ⟨l.arr,l.pend,l.fail,l.kind⟩)
def aI{c:Array Keyed}{i:Nat}(h:i<c.size){Q:Keyed->SortSt->Prop}(d:Q c[i] st):wpS 'r' A E s (elem' c i) Q st:=by
 rw[elem'_eq,Fe h];exact aj d
def de(C:Dv prog w A E s L knd)(l:kindOf st=knd)(c:KeysOf L a)(g:KeysOf L b){i j:Nat}(e:i<a.size)(f:j<b.size){Q:Option Bool->SortSt->Prop}(h:Q (some (L.blt (KK L a i) (KK L b j))) st) :
 wpS 'r' A E s (lt' a[i] b[j]) Q st:=by
 obtain⟨x,d⟩:=c a[i] (Array.getElem_mem_toList e);obtain⟨y,c⟩:=g b[j] (Array.getElem_mem_toList f);refine C st _ _ x y Q l d c ?_;rw[aD e,aD f] at h;delta ky at h;rw[d,c] at h;exact h
def k8(C:Dv prog w A E s L knd)(g:KeysOf L a)(l:KeysOf L b)(e:Up L a 0 a.size){c n j:Nat}(d:c+n<=a.size)(f:j<b.size):Cut prog w A E s knd false b[j] a c n (λi=>!L.blt (KK L b j) (KK L a (c+i))) where
 far:=λi st Q m d h=>by
  delta far;refine af (aI 'o' ?_);show wpS _ _ _ _ (lt' b[j] a[c+i] >>= λx=>pure (x.map (!·))) Q st;exact af (de C d l g f 'o' (aj h))
 mono:=λi k d f h=>by
  have h:L.blt (KK L b j) (KK L a (c+k))=false:=by simpa using h
  have:=KeyOrd.kle_trans (e (c+i) (c+k) (AF _) 'o' 'o') h;have:L.blt (KK L b j) (KK L a (c+i))=false:=this;simp[this]
def k9(C:Dv prog w A E s L knd)(g:KeysOf L a)(j:KeysOf L b)(f:Up L b 0 b.size){c n i:Nat}(d:c+n<=b.size)(l:i<a.size):Cut prog w A E s knd true a[i] b c n (λk=>L.blt (KK L b (c+k)) (KK L a i)) where
 far:=λk st Q e d h=>by
  delta far;refine af (aI 'o' ?_);show wpS _ _ _ _ (lt' b[c+k] a[i]) Q st;exact de C d j g 'o' l h
 mono:=λp q d e h=>KeyOrd.klt_of_kle_of_klt (f (c+p) (c+q) (AF _) 'o' 'o') h
def bu{c:Array Keyed}{i j:Nat}(h:j<=c.size):(c.extract i j).toList=(c.toList.drop i).take (j-i):=by
 simp[Array.toList_extract,List.extract_eq_drop_take]
structure CY(L:KeyKind)(a b:Array Keyed)(st:SortSt)(out:Array Keyed)(ia ib:Nat)(st':SortSt)(lo:Nat):Prop where
 m:Mg L a b out.toList ia ib
 ha:ia+1<a.size
 hb:ib<b.size
 like:BE st st'
 far:lo<=ia+ib
def CY.le{st:SortSt}{e:Array Keyed}{i f g c:Nat}{d:SortSt}(M:CY L a b st e i f d g)(h:c<=g):CY L a b st e i f d c:={M.m,M.ha,M.hb,M.like,Az h M.far}
structure Two(prog:Program)(w:World)(A:Around)(E:Value->Shared->Prop)(s:Shared)(L:KeyKind)(knd:SortKind)(a b:Array Keyed)(st:SortSt):Prop where
 C:Dv prog w A E s L knd
 ka:KeysOf L a
 kb:KeysOf L b
 ua:Up L a 0 a.size
 ub:Up L b 0 b.size
 hl:∀j,j<b.size->L.kle (KK L b j) (KK L a (a.size-1))
 hk:kindOf st=knd
abbrev DC(L:KeyKind)(a b:Array Keyed)(st:SortSt)(r:Array Keyed)(st':SortSt):Prop:=BE st st'/\Ev L a b r.toList
def lf(c:Array Keyed)(e d:Nat):(Cm a b c e d).toList=c.toList++a.toList.drop e++b.toList.drop d:=by
 delta Cm;rw[ED,ED,bu (Ap _),bu (Ap _),FZ 'd',FZ 'd']
def ss(c:Array Keyed)(e d:Nat):(Eu a b c e d).toList=c.toList++b.toList.drop d++a.toList.drop e:=by
 delta Eu;rw[ED,ED,bu (Ap _),bu (Ap _),FZ 'd',FZ 'd']
section
variable{out:Array Keyed}{ia ib lo:Nat}{st':SortSt}(T:Two prog w A E s L knd a b st)
include T
def Two.dB(m:Mg L a b out.toList ia ib)(h:b.size<=ib)(l:BE st st'):DC L a b st (Cm a b out ia ib) st':={l,by rw[lf];exact m.doneB T.ua h}
def Two.dA(m:Mg L a b out.toList ia ib)(h:a.size<=ia)(l:BE st st'):DC L a b st (Cm a b out ia ib) st':={l,by rw[lf];exact m.doneA T.ub h}
def Two.dL(m:Mg L a b out.toList ia ib)(h:ia+1=a.size)(l:BE st st'):DC L a b st (Eu a b out ia ib) st':={l,by rw[ss];exact m.last T.ub h (by rw[show ia=a.size-1 by omega];exact T.hl)}
def Two.kind(l:BE st st'):kindOf st'=knd:=l.kind.trans T.hk
end
abbrev S6:=Option (Array Keyed)×Array Keyed×Nat×Nat×Nat×Nat
abbrev S7:=Option (Array Keyed)×Array Keyed×Nat×Nat×Nat×Nat×Nat
def HA(a b:Array Keyed)(mg:Nat)(c:S6):SM S6:=forIn [0:a.size+b.size] c λ_ r=>do
 let y <-elem' b r.2.2.2.1
 let x <-elem' a r.2.2.1
 let z <-lt' y x
 match z with
 | some t=>
   if t=true then do
    let y <-elem' b r.2.2.2.1
    if (r.2.2.2.1+1 == b.size)=true then pure (ForInStep.done (some (Cm a b (r.2.1.push y) r.2.2.1 (r.2.2.2.1+1)),r.2.1.push y,r.2.2.1,r.2.2.2.1+1,0,r.2.2.2.2.2+1))
    else if r.2.2.2.2.2+1>=mg then pure (ForInStep.done (none,r.2.1.push y,r.2.2.1,r.2.2.2.1+1,0,r.2.2.2.2.2+1)) else pure (ForInStep.yield (none,r.2.1.push y,r.2.2.1,r.2.2.2.1+1,0,r.2.2.2.2.2+1))
   else do
    let x <-elem' a r.2.2.1
    if (r.2.2.1+1+1 == a.size)=true then pure (ForInStep.done (some (Eu a b (r.2.1.push x) (r.2.2.1+1) r.2.2.2.1),r.2.1.push x,r.2.2.1+1,r.2.2.2.1,r.2.2.2.2.1+1,0))
    else if r.2.2.2.2.1+1>=mg then pure (ForInStep.done (none,r.2.1.push x,r.2.2.1+1,r.2.2.2.1,r.2.2.2.2.1+1,0)) else pure (ForInStep.yield (none,r.2.1.push x,r.2.2.1+1,r.2.2.2.1,r.2.2.2.2.1+1,0))
 | _=>pure (ForInStep.done (some (Cm a b r.2.1 r.2.2.1 r.2.2.2.1),r.2.1,r.2.2.1,r.2.2.2.1,r.2.2.2.2.1,r.2.2.2.2.2))
def su(T:Two prog w A E s L knd a b st){d:Array Keyed}{f g q m i l:Nat}{c:SortSt}(M:CY L a b st d f g c q){Q:S6->SortSt->Prop}(u:∀r z h,DC L a b st r h->Q (some r,z) h)(x:∀d f g i l h,CY L a b st d f g h (q+1)->Q (none,d,f,g,i,l) h) :
 wpS 'r' A E s (HA a b m (none,d,f,g,i,l)) Q c:=by
 delta HA;refine aW (I:=λy c h=>∃d f g i l,c=(none,d,f,g,i,l)/\CY L a b st d f g h (q+y)) (λy c h e j r=>?_) (λc h r=>?_) ⟨d,f,g,i,l,rfl,M⟩
 ·obtain⟨d,f,g,i,l,e,M⟩:=r
  subst e;have B:=M.ha;have o:=M.hb;have c:=M.far;refine af (aI o (af (aI (show f<a.size by omega) (af (de T.C (T.kind M.like) T.kb T.ka o 'o' ?_)))));show wpS _ _ _ _ (if L.blt (KK L b g) (KK L a f)=true then _ else _) _ _;cases v:L.blt (KK L b g) (KK L a f)
  ·rw[if_neg BP]
   refine af (aI (show f<a.size by omega) ?_);have n:Mg L a b (d.push a[f]).toList (f+1) g:=by
    rw[Array.toList_push];exact M.m.pushA T.ua 'o' λj g1 g2=>KeyOrd.kle_trans v (T.ub g j (AF _) g1 g2)
   show wpS _ _ _ _ (if (f+1+1 == a.size)=true then _ else _) _ _;by_cases c:f+1+1=a.size
   ·rw[if_pos (beq_iff_eq.mpr c)]
    exact aj (u _ _ _ (T.dL n c M.like))
   ·rw[if_neg (λz=>c (beq_iff_eq.mp z))]
    show wpS _ _ _ _ (if i+1>=m then _ else _) _ _;have M2:CY L a b st (d.push a[f]) (f+1) g h (q+(y+1)):={n,'o',o,M.like,'o'};by_cases p:i+1>=m
    ·rw[if_pos p]
     exact aj (x _ _ _ _ _ _ (M2.le 'o'))
    ·rw[if_neg p]
     exact aj {_,_,_,_,_,rfl,M2}
  ·rw[if_pos rfl]
   refine af (aI o ?_);have n:Mg L a b (d.push b[g]).toList f (g+1):=by
    rw[Array.toList_push];exact M.m.pushB T.ub o λj g1 g2=>KeyOrd.kle_trans (KeyOrd.kle_of_klt v) (T.ua f j (AF _) g1 g2)
   show wpS _ _ _ _ (if (g+1 == b.size)=true then _ else _) _ _;by_cases c:g+1=b.size
   ·rw[if_pos (beq_iff_eq.mpr c)]
    exact aj (u _ _ _ (T.dB n (show b.size<=g+1 by omega) M.like))
   ·rw[if_neg (λz=>c (beq_iff_eq.mp z))]
    show wpS _ _ _ _ (if l+1>=m then _ else _) _ _;have M2:CY L a b st (d.push b[g]) f (g+1) h (q+(y+1)):={n,B,'o',M.like,'o'};by_cases p:l+1>=m
    ·rw[if_pos p]
     exact aj (x _ _ _ _ _ _ (M2.le 'o'))
    ·rw[if_neg p]
     exact aj {_,_,_,_,_,rfl,M2}
 ·obtain⟨d,f,g,i,l,e,M⟩:=r
  have:=M.ha;have:=M.hb;have:=M.far;omega
instance Gq(L:KeyKind)(a b:Array Keyed)(st:SortSt)(lo:Nat)(r:ForInStep S7)(st':SortSt):Prop:=
 match r with
 | .done c=>(∃q z,c=(some q,z)/\DC L a b st q st')\/∃out ia ib mg ca cb,c=(none,out,ia,ib,mg,ca,cb)/\CY L a b st out ia ib st' lo
 | .yield c=>∃out ia ib mg ca cb,c=(none,out,ia,ib,mg,ca,cb)/\CY L a b st out ia ib st' lo
instance G3(a b out:Array Keyed)(ia ib mg ca cb:Nat):SM (ForInStep S7):=do
 let x <-elem' a ia
 if (ia+1+1 == a.size)=true then pure (ForInStep.done ((some (Eu a b (out.push x) (ia+1) ib),out.push x,ia+1,ib,mg,ca,cb):S7))
 else if (decide (ca<7)&&decide (cb<7))=true then pure (ForInStep.done ((none,out.push x,ia+1,ib,mg,ca,cb):S7)) else pure (ForInStep.yield ((none,out.push x,ia+1,ib,mg,ca,cb):S7))
def lg(T:Two prog w A E s L knd a b st){d:Array Keyed}{c e h g i j:Nat}{f:SortSt}(m:Mg L a b d.toList c e)(l:c+1<a.size)(n:e<b.size)(l:BE st f)(p:h<=c+e+1)(o:L.blt (KK L b e) (KK L a c)=false) :
 wpS 'r' A E s (G3 a b d c e g i j) (Gq L a b st h) f:=by
 delta G3;refine af (aI (show c<a.size by omega) ?_);have i:Mg L a b (d.push a[c]).toList (c+1) e:=by
  rw[Array.toList_push];exact m.pushA T.ua 'o' λj g1 g2=>KeyOrd.kle_trans o (T.ub e j (AF _) g1 g2)
 by_cases g:c+1+1=a.size
 ·rw[if_pos (beq_iff_eq.mpr g)]
  exact aj (.inl {_,_,rfl,T.dL i g l})
 ·rw[if_neg (λz=>g (beq_iff_eq.mp z))]
  have M2:CY L a b st (d.push a[c]) (c+1) e f h:={i,'o',n,l,'o'};split
  ·exact aj (.inr {_,_,_,_,_,_,rfl,M2})
  ·exact aj {_,_,_,_,_,_,rfl,M2}
instance G2(a b out:Array Keyed)(ia ib mg ca cb:Nat):SM (ForInStep S7):=do
 let y <-elem' b ib
 if (ib+1 == b.size)=true then pure (ForInStep.done ((some (Cm a b (out.push y) ia (ib+1)),out.push y,ia,ib+1,mg,ca,cb):S7))
 else do
  let x <-elem' a ia
  let k <-Ek true x b (ib+1) (b.size-(ib+1)) 0
  match k with
  | some k=>
    if k>0 then
     if (ib+1+k == b.size)=true then pure (ForInStep.done ((some (Cm a b (out.push y++b.extract (ib+1) (ib+1+k)) ia (ib+1+k)),out.push y++b.extract (ib+1) (ib+1+k),ia,ib+1+k,mg,ca,k):S7))
     else G3 a b (out.push y++b.extract (ib+1) (ib+1+k)) ia (ib+1+k) mg ca k
    else G3 a b (out.push y) ia (ib+1) mg ca k
  | _=>pure (ForInStep.done ((some (Cm a b (out.push y) ia (ib+1)),out.push y,ia,ib+1,mg,ca,cb):S7))
def lh(T:Two prog w A E s L knd a b st){d:Array Keyed}{f c u g n o:Nat}{e:SortSt}(m:Mg L a b d.toList f c)(p:f+1<a.size)(i:c<b.size)(l:BE st e)(h:u<=f+c+1)(q:∀j,f<=j->j<a.size->L.kle (KK L b c) (KK L a j)) :
 wpS 'r' A E s (G2 a b d f c g n o) (Gq L a b st u) e:=by
 delta G2;refine af (aI i ?_);have n:Mg L a b (d.push b[c]).toList f (c+1):=by
  rw[Array.toList_push];exact m.pushB T.ub i q
 by_cases g:c+1=b.size
 ·rw[if_pos (beq_iff_eq.mpr g)]
  exact aj (.inl {_,_,rfl,T.dB n (BQ g.symm) l})
 rw[if_neg (λz=>g (beq_iff_eq.mp z))];have e:c+1+(b.size-(c+1))=b.size:=FC i;have v:c+1<b.size:=FE i g;have q:=Nat.sub_pos_of_lt v;have g:=Nat.lt_of_succ_lt p;refine af (aI g (af (da (k9 T.C T.ka T.kb T.ub (BQ e) g) (T.kind l) q λk i o g=>?_)));have m:c+1+k<=b.size:=Az (Dt i _) (BQ e);show wpS _ _ _ _ (if k>0 then _ else _) _ _;by_cases e:k>0
 ·rw[if_pos e]
  have r:Mg L a b (d.push b[c]++b.extract (c+1) (c+1+k)).toList f (c+1+k):=by
   rw[ED,bu m,G8];exact n.takeB T.ub k m λi d j g1 g2=>KeyOrd.kle_trans (KeyOrd.kle_of_klt (o i d)) (T.ua f j (AF _) g1 g2)
  by_cases d:c+1+k=b.size
  ·rw[if_pos (beq_iff_eq.mpr d)]
   exact aj (.inl {_,_,rfl,T.dB r (BQ d.symm) l})
  ·rw[if_neg (λz=>d (beq_iff_eq.mp z))]
   have i:=FE m d;exact lg T r p i l (Az h (Fi (Dt (Az (Fs c) (CA _ k)) f))) (g k (Ap _) (Nat.lt_sub_of_add_lt (by rw[Cq];exact i)))
 ·rw[if_neg e]
  cases Nat.eq_zero_of_not_pos e;exact lg T n p v l (Nat.le_succ_of_le h) (g 0 (Ap _) q)
instance G1(a b out:Array Keyed)(ia ib mg ca cb:Nat):SM (ForInStep S7):=do
 ET mg
 let y <-elem' b ib
 let k <-Ek false y a ia (a.size-ia) 0
 match k with
 | some k=>
   if k>0 then
    if (ia+k+1 == a.size)=true then pure (ForInStep.done ((some (Eu a b (out++a.extract ia (ia+k)) (ia+k) ib),out++a.extract ia (ia+k),ia+k,ib,mg,k,cb):S7))
    else if (ia+k == a.size)=true then pure (ForInStep.done ((some (Cm a b (out++a.extract ia (ia+k)) (ia+k) ib),out++a.extract ia (ia+k),ia+k,ib,mg,k,cb):S7))
    else G2 a b (out++a.extract ia (ia+k)) (ia+k) ib mg k cb
   else G2 a b out ia ib mg k cb
 | _=>pure (ForInStep.done ((some (Cm a b out ia ib),out,ia,ib,mg,ca,cb):S7))
def sv(T:Two prog w A E s L knd a b st){d:Array Keyed}{c f q g h i:Nat}{e:SortSt}(M:CY L a b st d c f e q):wpS 'r' A E s (G1 a b d c f g h i) (Gq L a b st (q+1)) e:=by
 delta G1;have p:=M.ha;have h:=M.hb;have e:=M.far;refine af (fw M.like λe l=>?_);have g:=Nat.lt_of_succ_lt p;have e:c+(a.size-c)=a.size:=FC (BB g);refine af (aI h (af (da (k8 T.C T.ka T.kb T.ua (BQ e) h) (T.kind l) (Nat.sub_pos_of_lt g) λk j m i=>?_)));have g:c+k<=a.size:=Az (Dt j _) (BQ e);show wpS _ _ _ _ (if k>0 then _ else _) _ _;have o:∀j,c+k<=j->j<a.size->L.kle (KK L b f) (KK L a j):=λj g1 g2=>by
  obtain⟨t,rfl⟩:=Nat.le.dest (Az (CA c k) g1);have:=i t (Nat.le_of_add_le_add_left g1) (Nat.lt_sub_of_add_lt (by rw[Cq];exact g2));exact KeyOrd.kle_of_klt (show L.blt (KK L b f) (KK L a (c+t))=true by simpa using this)
 by_cases e:k>0
 ·rw[if_pos e]
  have n:Mg L a b (d++a.extract c (c+k)).toList (c+k) f:=by
   rw[ED,bu g,G8];refine M.m.takeA T.ua k g λi d j g1 g2=>?_
   have:=m i d;exact KeyOrd.kle_trans (show L.blt (KK L b f) (KK L a (c+i))=false by simpa using this) (T.ub f j (AF _) g1 g2)
  by_cases d:c+k+1=a.size
  ·rw[if_pos (beq_iff_eq.mpr d)]
   exact aj (.inl {_,_,rfl,T.dL n d l})
  rw[if_neg (λz=>d (beq_iff_eq.mp z))];by_cases f:c+k=a.size
  ·rw[if_pos (beq_iff_eq.mpr f)]
   exact aj (.inl {_,_,rfl,T.dA n (BQ f.symm) l})
  rw[if_neg (λz=>f (beq_iff_eq.mp z))];exact lh T n (FE (FE g f) d) h l 'o' o
 ·rw[if_neg e]
  cases Nat.eq_zero_of_not_pos e;exact lh T M.m p h l 'o' o
def HB(a b:Array Keyed)(c:S7):SM S7:=forIn [0:a.size+b.size] c λ_ r=>
 if r.2.2.2.2.1>1 then G1 a b r.2.1 r.2.2.1 r.2.2.2.1 (r.2.2.2.2.1-1) r.2.2.2.2.2.1 r.2.2.2.2.2.2 else G1 a b r.2.1 r.2.2.1 r.2.2.2.1 r.2.2.2.2.1 r.2.2.2.2.2.1 r.2.2.2.2.2.2
abbrev S5:=Option (Array Keyed)×Array Keyed×Nat×Nat×Nat
def IE(a b:Array Keyed)(r:S5):SM (ForInStep S5):=do
 let c <-HA a b r.2.2.2.2 (none,r.2.1,r.2.2.1,r.2.2.2.1,0,0)
 match c.1 with
 | some q=>pure (ForInStep.done (some q,c.2.1,c.2.2.1,c.2.2.2.1,r.2.2.2.2))
 | none=>do
   rule "list.sort.gallop"
   let d <-HB a b (none,c.2.1,c.2.2.1,c.2.2.2.1,r.2.2.2.2+1,c.2.2.2.2.1,c.2.2.2.2.2)
   match d.1 with
   | some q=>pure (ForInStep.done (some q,d.2.1,d.2.2.1,d.2.2.2.1,d.2.2.2.2.1))
   | none=>do
     ET (d.2.2.2.2.1+1)
     pure (ForInStep.yield (none,d.2.1,d.2.2.1,d.2.2.2.1,d.2.2.2.2.1+1))
def KR(c:S5):SM (Array Keyed):=match c.1 with
 | some q=>pure q
 | none=>unsupported "internal:list.sort.merge-bound"
open H in
def sw(a b:Array Keyed):mlo a b=(do
 rule "list.sort.merge-lo"
 let y <-elem' b 0
 if (1 == b.size)=true then pure (Cm a b #[y] 0 1)
 else if (0+1 == a.size)=true then pure (Eu a b #[y] 0 1)
 else do
  let st <-get
  let c <-forIn [0:a.size+b.size] ((none,#[y],0,1,gallopOf st):S5) λ_ r=>IE a b r
  KR c):=by
 rw[sm];refine congrArg _ (funext λ_=>congrArg _ (funext λy=>?_));dsimp only;refine congrArg _ (congrArg _ (congrArg _ (funext λst=>?_)));refine congr (congrArg bind (congrArg _ (funext λ_=>funext λr=>?_))) ?_
 ·delta IE
  refine congr (congrArg bind ?_) (funext λc=>?_)
  ·delta HA;rfl
  ·obtain⟨f,g⟩:=c
   cases f with
   | some q=>rfl
   | none=>
     dsimp only;refine congrArg _ (funext λ_=>?_);refine congr (congrArg bind ?_) (funext λd=>?_)
     ·delta HB
      refine congrArg _ (funext λ_=>funext λr=>?_);delta G1 G2 G3;by_cases e:r.2.2.2.2.1>1
      ·first | rewrite [if_pos e,if_pos e] | rewrite [if_pos e]
       refine congrArg _ (funext λ_=>congrArg _ (funext λ_=>congrArg _ (funext λk=>?_)));cases k with
       | none=>rfl
       | some k=>rfl
      ·first | rewrite [if_neg e,if_neg e] | rewrite [if_neg e]
       refine congrArg _ (funext λ_=>congrArg _ (funext λ_=>congrArg _ (funext λk=>?_)));cases k with
       | none=>rfl
       | some k=>rfl
     ·obtain⟨e,h⟩:=d
      cases e<;>rfl
 ·funext c
  obtain⟨f,g⟩:=c;cases f<;>rfl
def sx(T:Two prog w A E s L knd a b st){d:Array Keyed}{i h o g j l:Nat}{c:SortSt}(M:CY L a b st d i h c o){Q:S7->SortSt->Prop}(u:∀q z f,DC L a b st q f->Q (some q,z) f)(v:∀d i h g j l f,CY L a b st d i h f o->Q (none,d,i,h,g,j,l) f):wpS 'r' A E s (HB a b (none,d,i,h,g,j,l)) Q c:=by
 delta HB;refine aW (I:=λy c f=>∃d i h g j l,c=(none,d,i,h,g,j,l)/\CY L a b st d i h f (o+y)) (λy c f e m p=>?_) (λc f p=>?_) ⟨d,i,h,g,j,l,rfl,M⟩
 ·obtain⟨d,i,h,g,j,l,e,M⟩:=p
  subst e;have fin:∀(g:Nat),wpS 'r' A E s (G1 a b d i h g j l) (λr c=>match r with | .done n=>Q n c | .yield n=>∃d i h g j l,n=(none,d,i,h,g,j,l)/\CY L a b st d i h c (o+(y+1))) f:=λg=>aS (sv T M) λr c m=>by
   cases r with
   | done n=>
     rcases m with⟨q,z,e,f⟩ | ⟨d,i,h,g,j,l,e,M⟩
     ·subst e;exact u q z c f
     ·subst e;exact v _ _ _ _ _ _ c (M.le 'o')
   | yield n=>exact m
  show wpS _ _ _ _ (if g>1 then G1 a b d i h (g-1) j l else G1 a b d i h g j l) _ _;by_cases f:g>1
  ·rw[if_pos f];exact aS (fin (g-1)) λr c m=>by cases r<;>exact m
  ·rw[if_neg f];exact aS (fin g) λr c m=>by cases r<;>exact m
 ·obtain⟨d,i,h,g,j,l,e,M⟩:=p
  have:=M.ha;have:=M.hb;have:=M.far;omega
def sA(T:Two prog w A E s L knd a b st)(c:0<a.size)(e:0<b.size)(f:L.kle (KK L b 0) (KK L a 0)){Q:Array Keyed->SortSt->Prop}(h:∀r d,BE st d->Ev L a b r.toList->Q r d):wpS 'r' A E s (mlo a b) Q st:=by
 rw[sw];refine af (wpS_lift (aZ {rfl,?_}));refine af (aI e ?_);have l:Mg L a b [b[0]] 0 1:=by
  have z:Mg L a b [] 0 0:={'d',List.Pairwise.nil,λx c=>absurd c 'd',λx c=>absurd c 'd'};exact z.pushB T.ub e λj _ c=>KeyOrd.kle_trans f (T.ua 0 j (Ap _) (AF _) c)
 by_cases e:(1 == b.size)=true
 ·rw[if_pos e]
  have f:=T.dB (out:=#[b[0]]) l (by have:=beq_iff_eq.mp e;omega) BE.refl;exact aj (h _ _ f.1 f.2)
 rw[if_neg e];by_cases c:(0+1 == a.size)=true
 ·rw[if_pos c]
  have f:=T.dL (out:=#[b[0]]) l (by simpa using c) BE.refl;exact aj (h _ _ f.1 f.2)
 rw[if_neg c];have g:1<b.size:=by
  have:¬1=b.size:=by simpa using e
  omega
 have g:1<a.size:=by
  have:¬1=a.size:=by simpa using c
  omega
 refine af (wpS_get ?_);refine af (aS (aW (I:=λx c d=>∃out i g m,c=(none,out,i,g,m)/\CY L a b st out i g d (1+x)) (Q:=λc d=>∃r z,c=(some r,z)/\DC L a b st r d) (λx c d e n j=>?_) (λc d j=>?_) {#[b[0]],0,1,_,rfl,l,'o','o',BE.refl,'o'}) λc d j=>?_)
 ·obtain⟨out,i,g,m,e,M⟩:=j
  subst e;delta IE;refine af (su T M (λr z c f=>?_) λout i g l n c M2=>?_)
  ·exact aj {r,_,rfl,f}
  ·refine af (wpS_lift (aZ {rfl,?_}))
   refine af (sx T M2 (λq z d f=>?_) λout i g m l n d c=>?_)
   ·exact aj {q,_,rfl,f}
   ·exact af (fw c.like λd l=>aj {out,i,g,_,rfl,c.m,c.ha,c.hb,l,c.far})
 ·obtain⟨out,i,g,m,e,M⟩:=j
  have:=M.ha;have:=M.hb;have:=M.far;omega
 ·obtain⟨r,z,e,f⟩:=j
  subst e;exact aj (h _ _ f.1 f.2)
end
instance mhi:Array Keyed->Array Keyed->SM (Array Keyed):=sortPriv% PySem.Builtin.mergeHi
abbrev Cn(a b out:Array Keyed)(na nb:Nat):Array Keyed:=a.extract 0 na++b.extract 0 nb++out.reverse
abbrev Ew(a b out:Array Keyed)(na nb:Nat):Array Keyed:=b.extract 0 nb++a.extract 0 na++out.reverse
def sB(a b:Array Keyed):mhi a b=(do
 rule "list.sort.merge-hi"
 let mut na:=a.size-1
 let mut nb:=b.size
 let mut out:Array Keyed:=#[<-elem' a na]
 if na == 0 then return Cn a b out na nb
 if nb == 1 then return Ew a b out na nb
 let mut mg:=gallopOf (<-get)
 for _ in [0:a.size+b.size] do
  let mut ca:=0
  let mut cb:=0
  for _ in [0:a.size+b.size] do
   let some y <-lt' (<-elem' b (nb-1)) (<-elem' a (na-1)) | return Cn a b out na nb
   if y then
    na:=na-1
    out:=out.push (<-elem' a na)
    ca:=ca+1
    cb:=0
    if na == 0 then return Cn a b out na nb
    if ca>=mg then break
   else
    nb:=nb-1
    out:=out.push (<-elem' b nb)
    cb:=cb+1
    ca:=0
    if nb == 1 then return Ew a b out na nb
    if cb>=mg then break
  rule "list.sort.gallop"
  mg:=mg+1
  for _ in [0:a.size+b.size] do
   if mg>1 then mg:=mg-1
   ET mg
   let some p <-Ek false (<-elem' b (nb-1)) a 0 na (na-1) | return Cn a b out na nb
   ca:=na-p
   if na-p>0 then
    out:=out++(a.extract p na).reverse
    na:=p
    if na == 0 then return Cn a b out na nb
   nb:=nb-1
   out:=out.push (<-elem' b nb)
   if nb == 1 then return Ew a b out na nb
   let some p <-Ek true (<-elem' a (na-1)) b 0 nb (nb-1) | return Cn a b out na nb
   cb:=nb-p
   if nb-p>0 then
    out:=out++(b.extract p nb).reverse
    nb:=p
    if nb == 1 then return Ew a b out na nb
    if nb == 0 then return Cn a b out na nb
   na:=na-1
   out:=out.push (<-elem' a na)
   if na == 0 then return Cn a b out na nb
   if ca<7&&cb<7 then break
  mg:=mg+1
  ET mg
 unsupported "internal:list.sort.merge-bound"):=rfl
section
variable{L:KeyKind}{a b:Array Keyed}{t:List Keyed}{na nb:Nat}
structure Mh(L:KeyKind)(a b:Array Keyed)(t:List Keyed)(na nb:Nat):Prop where
 perm:((a.toList.take na++b.toList.take nb)++t).Perm (a.toList++b.toList)
 up:t.Pairwise (le L)
 la:∀x∈t,∀i,i<na->L.kle (KK L a i) (ky L x)
 lb:∀x∈t,∀i,i<nb->L.kle (KK L b i) (ky L x)
def hB{c:Array Keyed}{i:Nat}(h:i<c.size):c.toList.take (i+1)=c.toList.take i++[c[i]]:=by
 rw[Cc];simp[Fe h]
def Mh.pushA(m:Mh L a b t (na+1) nb)(g:Up L a 0 a.size)(d:na<a.size)(h:∀j,j<nb->L.kle (KK L b j) (KK L a na)):Mh L a b (a[na]::t) na nb:=by
 refine{?_,DH.mpr {λz f=>?_,m.up},λx c i e=>?_,λx c i e=>?_}
 ·have:=m.perm
  rw[hB d] at this;refine List.Perm.trans ?_ this;rw[BH,BH,BH];exact List.Perm.append_left _ (List.perm_middle (l₁:=b.toList.take nb))
 ·have:=m.la z f na 'o'
  rwa [aD d] at this
 ·rcases AE.mp c with c | c
  ·rw[c,<-aD d]
   exact g i na (AF _) 'o' d
  ·exact m.la x c i 'o'
 ·rcases AE.mp c with c | c
  ·rw[c,<-aD d]
   exact h i e
  ·exact m.lb x c i e
def Mh.pushB(m:Mh L a b t na (nb+1))(f:Up L b 0 b.size)(d:nb<b.size)(h:∀j,j<na->L.kle (KK L a j) (KK L b nb)):Mh L a b (b[nb]::t) na nb:=by
 refine{?_,DH.mpr {λz g=>?_,m.up},λx c i e=>?_,λx c i e=>?_}
 ·have:=m.perm
  rw[hB d] at this;simpa [BH] using this
 ·have:=m.lb z g nb 'o'
  rwa [aD d] at this
 ·rcases AE.mp c with c | c
  ·rw[c,<-aD d]
   exact h i e
  ·exact m.la x c i e
 ·rcases AE.mp c with c | c
  ·rw[c,<-aD d]
   exact f i nb (AF _) 'o' d
  ·exact m.lb x c i 'o'
def lk{c:Array Keyed}{i k:Nat}(h:i<c.size):(c.toList.drop i).take (k+1)=c[i]::(c.toList.drop (i+1)).take k:=by
 rw[ft h,List.take_succ_cons]
theorem Mh.takeA(c:Up L a 0 a.size):∀(k p:Nat) (t:List Keyed),Mh L a b t (p+k) nb->p+k<=a.size->(∀i,p<=i->i<p+k->∀j,j<nb->L.kle (KK L b j) (KK L a i))->Mh L a b ((a.toList.drop p).take k++t) p nb
 | 0,p,t,m,_,_=>by simpa using m
 | k+1,p,t,m,e,h=>by
   have d:=Mh.takeA c k (p+1) t (by rw[show p+1+k=p+(k+1) by omega];exact m) 'o' λi f e=>h i 'o' 'o'
   have:=d.pushA c 'o' (h p (Ap _) 'o');rw[lk 'o'];exact this
theorem Mh.takeB(c:Up L b 0 b.size):∀(k p:Nat) (t:List Keyed),Mh L a b t na (p+k)->p+k<=b.size->(∀i,p<=i->i<p+k->∀j,j<na->L.kle (KK L a j) (KK L b i))->Mh L a b ((b.toList.drop p).take k++t) na p
 | 0,p,t,m,_,_=>by simpa using m
 | k+1,p,t,m,e,h=>by
   have d:=Mh.takeB c k (p+1) t (by rw[show p+1+k=p+(k+1) by omega];exact m) 'o' λi f e=>h i 'o' 'o'
   have:=d.pushB c 'o' (h p (Ap _) 'o');rw[lk 'o'];exact this
def hC{c:Array Keyed}{i:Nat}(u:Up L c 0 c.size):(c.toList.take i).Pairwise (le L):=(fu (i:=0) u).sublist (List.take_sublist _ _)
def eA{c:Array Keyed}{i:Nat}{x:Keyed}(h:x∈c.toList.take i):∃j,j<i/\j<c.size/\ky L x=KK L c j:=by
 obtain⟨j,d,e⟩:=List.getElem_of_mem h;rw[CO,Ee] at d;refine{j,'o','o',?_};rw[aD 'o',<-e];simp[List.getElem_take]
def Mh.doneB(m:Mh L a b t na 0)(d:Up L a 0 a.size):Ev L a b (a.toList.take na++b.toList.take 0++t):=by
 refine{m.perm,?_};rw[List.take_zero,Cp];refine EB.mpr {hC d,m.up,λx f y c=>?_};obtain⟨j,d,g,e⟩:=eA (L:=L) f;show L.kle (ky L x) (ky L y);rw[e];exact m.la y c j d
def Mh.doneA(m:Mh L a b t 0 nb)(d:Up L b 0 b.size):Ev L a b (a.toList.take 0++b.toList.take nb++t):=by
 refine{m.perm,?_};rw[List.take_zero,List.nil_append];refine EB.mpr {hC d,m.up,λx f y c=>?_};obtain⟨j,d,g,e⟩:=eA (L:=L) f;show L.kle (ky L x) (ky L y);rw[e];exact m.lb y c j d
def Mh.first(m:Mh L a b t na 1)(f:Up L a 0 a.size)(d:0<b.size)(h:∀j,j<a.size->L.kle (KK L b 0) (KK L a j)):Ev L a b (b.toList.take 1++a.toList.take na++t):=by
 have e:b.toList.take 1=[b[0]]:=by rw[hB d];simp
 refine{?_,?_}
 ·refine List.Perm.trans (List.Perm.append_right _ List.perm_append_comm) m.perm
 ·rw[e,BH,List.singleton_append]
  refine DH.mpr {λy c=>?_,EB.mpr {hC f,m.up,λx g y c=>?_}}
  ·show L.kle (ky L b[0]) (ky L y)
   rw[<-aD d];rcases BN.mp c with c | c
   ·obtain⟨j,d,f,e⟩:=eA (L:=L) c
    rw[e];exact h j f
   ·exact m.lb y c 0 'o'
  ·obtain⟨j,d,f,e⟩:=eA (L:=L) g
   show L.kle (ky L x) (ky L y);rw[e];exact m.la y c j d
end
section
variable{prog:Program}{w:World}{A:Around}{E:Value->Shared->Prop}{s:Shared}{L:KeyKind}{knd:SortKind}{st:SortSt}{a b:Array Keyed}
structure CZ(L:KeyKind)(a b:Array Keyed)(st:SortSt)(na nb:Nat)(out:Array Keyed)(st':SortSt)(lo:Nat):Prop where
 m:Mh L a b out.toList.reverse na nb
 ha:0<na
 hb:1<nb
 la:na<=a.size
 lb:nb<=b.size
 like:BE st st'
 far:na+nb+lo<=a.size+b.size
def CZ.le{st:SortSt}{e:Array Keyed}{f i g c:Nat}{d:SortSt}(M:CZ L a b st f i e d g)(h:c<=g):CZ L a b st f i e d c:={M.m,M.ha,M.hb,M.la,M.lb,M.like,by have:=M.far;omega}
def lm(c:Array Keyed){e d:Nat}(g:e<=a.size)(f:d<=b.size):(Cn a b c e d).toList=a.toList.take e++b.toList.take d++c.toList.reverse:=by
 delta Cn;rw[ED,ED,bu g,bu f,Array.toList_reverse];simp
def sC(c:Array Keyed){e d:Nat}(g:e<=a.size)(f:d<=b.size):(Ew a b c e d).toList=b.toList.take d++a.toList.take e++c.toList.reverse:=by
 delta Ew;rw[ED,ED,bu g,bu f,Array.toList_reverse];simp
structure Tw(prog:Program)(w:World)(A:Around)(E:Value->Shared->Prop)(s:Shared)(L:KeyKind)(knd:SortKind)(a b:Array Keyed)(st:SortSt):Prop extends Two prog w A E s L knd a b st where
 hf:∀j,j<a.size->L.kle (KK L b 0) (KK L a j)
section
variable{out:Array Keyed}{na nb lo:Nat}{st':SortSt}(T:Tw prog w A E s L knd a b st)
include T
def Tw.dB(m:Mh L a b out.toList.reverse na nb)(c:na<=a.size)(h:nb=0)(l:BE st st'):DC L a b st (Cn a b out na nb) st':={l,by subst h;rw[lm _ c (AF _)];exact m.doneB T.ua}
def Tw.dA(m:Mh L a b out.toList.reverse na nb)(c:nb<=b.size)(h:na=0)(l:BE st st'):DC L a b st (Cn a b out na nb) st':={l,by subst h;rw[lm _ (AF _) c];exact m.doneA T.ub}
def Tw.dF(m:Mh L a b out.toList.reverse na nb)(d:na<=a.size)(c:nb<=b.size)(h:nb=1)(l:BE st st'):DC L a b st (Ew a b out na nb) st':={l,by subst h;rw[sC _ d c];exact m.first T.ua c T.hf}
end
def ln(c:Array Keyed)(x:Keyed):(c.push x).toList.reverse=x::c.toList.reverse:=by simp
def lp(c:Array Keyed){d:Array Keyed}{p q:Nat}(h:q<=d.size):(c++(d.extract p q).reverse).toList.reverse=(d.toList.drop p).take (q-p)++c.toList.reverse:=by
 rw[ED,Array.toList_reverse,bu h,List.reverse_append,List.reverse_reverse]
section
variable{out:Array Keyed}{na nb lo:Nat}{st':SortSt}(T:Tw prog w A E s L knd a b st)
include T
def Tw.putA(m:Mh L a b out.toList.reverse na nb)(d:0<na)(c:na<=a.size)(h:∀j,j<nb->L.kle (KK L b j) (KK L a (na-1))):Mh L a b (out.push (a[na-1]'('o'))).toList.reverse (na-1) nb:=by
 obtain⟨n,rfl⟩:∃n,na=n+1:={na-1,'o'};rw[ln];exact m.pushA T.ua (show n<a.size by omega) h
def Tw.putB(m:Mh L a b out.toList.reverse na nb)(d:0<nb)(c:nb<=b.size)(h:∀j,j<na->L.kle (KK L a j) (KK L b (nb-1))):Mh L a b (out.push (b[nb-1]'('o'))).toList.reverse na (nb-1):=by
 obtain⟨n,rfl⟩:∃n,nb=n+1:={nb-1,'o'};rw[ln];exact m.pushB T.ub (show n<b.size by omega) h
def Tw.manyA(m:Mh L a b out.toList.reverse na nb){p:Nat}(d:p<=na)(c:na<=a.size)(h:∀i,p<=i->i<na->∀j,j<nb->L.kle (KK L b j) (KK L a i)):Mh L a b (out++(a.extract p na).reverse).toList.reverse p nb:=by
 rw[lp out c];exact Mh.takeA T.ua (na-p) p _ (by rw[show p+(na-p)=na by omega];exact m) 'o' λi c d=>h i c 'o'
def Tw.manyB(m:Mh L a b out.toList.reverse na nb){p:Nat}(d:p<=nb)(c:nb<=b.size)(h:∀i,p<=i->i<nb->∀j,j<na->L.kle (KK L a j) (KK L b i)):Mh L a b (out++(b.extract p nb).reverse).toList.reverse na p:=by
 rw[lp out c];exact Mh.takeB T.ub (nb-p) p _ (by rw[show p+(nb-p)=nb by omega];exact m) 'o' λi c d=>h i c 'o'
end
abbrev H6:=Option (Array Keyed)×Nat×Nat×Array Keyed×Nat×Nat
abbrev H7:=Option (Array Keyed)×Nat×Nat×Array Keyed×Nat×Nat×Nat
def HC(a b:Array Keyed)(mg:Nat)(c:H6):SM H6:=forIn [0:a.size+b.size] c λ_ r=>do
 let y <-elem' b (r.2.2.1-1)
 let x <-elem' a (r.2.1-1)
 let z <-lt' y x
 match z with
 | some t=>
   if t=true then do
    let x <-elem' a (r.2.1-1)
    if (r.2.1-1 == 0)=true then pure (ForInStep.done (some (Cn a b (r.2.2.2.1.push x) (r.2.1-1) r.2.2.1),r.2.1-1,r.2.2.1,r.2.2.2.1.push x,r.2.2.2.2.1+1,0))
    else if r.2.2.2.2.1+1>=mg then pure (ForInStep.done (none,r.2.1-1,r.2.2.1,r.2.2.2.1.push x,r.2.2.2.2.1+1,0)) else pure (ForInStep.yield (none,r.2.1-1,r.2.2.1,r.2.2.2.1.push x,r.2.2.2.2.1+1,0))
   else do
    let y <-elem' b (r.2.2.1-1)
    if (r.2.2.1-1 == 1)=true then pure (ForInStep.done (some (Ew a b (r.2.2.2.1.push y) r.2.1 (r.2.2.1-1)),r.2.1,r.2.2.1-1,r.2.2.2.1.push y,0,r.2.2.2.2.2+1))
    else if r.2.2.2.2.2+1>=mg then pure (ForInStep.done (none,r.2.1,r.2.2.1-1,r.2.2.2.1.push y,0,r.2.2.2.2.2+1)) else pure (ForInStep.yield (none,r.2.1,r.2.2.1-1,r.2.2.2.1.push y,0,r.2.2.2.2.2+1))
 | _=>pure (ForInStep.done (some (Cn a b r.2.2.2.1 r.2.1 r.2.2.1),r.2.1,r.2.2.1,r.2.2.2.1,r.2.2.2.2.1,r.2.2.2.2.2))
def sD(T:Tw prog w A E s L knd a b st){d:Array Keyed}{h g p m i l:Nat}{c:SortSt}(M:CZ L a b st h g d c p){Q:H6->SortSt->Prop}(v:∀r z f,DC L a b st r f->Q (some r,z) f)(C:∀d h g i l f,CZ L a b st h g d f (p+1)->Q (none,h,g,d,i,l) f) :
 wpS 'r' A E s (HC a b m (none,h,g,d,i,l)) Q c:=by
 delta HC;refine aW (I:=λy c f=>∃d h g i l,c=(none,h,g,d,i,l)/\CZ L a b st h g d f (p+y)) (λy c f e j r=>?_) (λc f r=>?_) ⟨d,h,g,i,l,rfl,M⟩
 ·obtain⟨d,h,g,i,l,e,M⟩:=r
  subst e;have x:=M.ha;have G:=M.hb;have c:=M.far;have q:=M.la;have u:=M.lb;refine af (aI (show g-1<b.size by omega) (af (aI (show h-1<a.size by omega) (af (de T.C (T.kind M.like) T.kb T.ka 'o' 'o' ?_)))));show wpS _ _ _ _ (if L.blt (KK L b (g-1)) (KK L a (h-1))=true then _ else _) _ _;cases B:L.blt (KK L b (g-1)) (KK L a (h-1))
  ·rw[if_neg BP]
   refine af (aI (show g-1<b.size by omega) ?_);have n:=T.putB M.m 'o' u λj g1=>KeyOrd.kle_trans (T.ua j (h-1) (AF _) 'o' 'o') B
   show wpS _ _ _ _ (if (g-1 == 1)=true then _ else _) _ _;by_cases c:g-1=1
   ·rw[if_pos (beq_iff_eq.mpr c)]
    exact aj (v _ _ _ (T.dF n q (show g-1<=b.size by omega) c M.like))
   ·rw[if_neg (λz=>c (beq_iff_eq.mp z))]
    show wpS _ _ _ _ (if l+1>=m then _ else _) _ _;have M2:CZ L a b st h (g-1) (d.push b[g-1]) f (p+(y+1)):={n,x,'o',q,'o',M.like,'o'};by_cases o:l+1>=m
    ·rw[if_pos o]
     exact aj (C _ _ _ _ _ _ (M2.le 'o'))
    ·rw[if_neg o]
     exact aj {_,_,_,_,_,rfl,M2}
  ·rw[if_pos rfl]
   refine af (aI (show h-1<a.size by omega) ?_);have n:=T.putA M.m x q λj g1=>KeyOrd.kle_trans (T.ub j (g-1) (AF _) 'o' 'o') (KeyOrd.kle_of_klt B)
   show wpS _ _ _ _ (if (h-1 == 0)=true then _ else _) _ _;by_cases c:h-1=0
   ·rw[if_pos (beq_iff_eq.mpr c)]
    exact aj (v _ _ _ (T.dA n u c M.like))
   ·rw[if_neg (λz=>c (beq_iff_eq.mp z))]
    show wpS _ _ _ _ (if i+1>=m then _ else _) _ _;have M2:CZ L a b st (h-1) g (d.push a[h-1]) f (p+(y+1)):={n,'o',G,'o',u,M.like,'o'};by_cases o:i+1>=m
    ·rw[if_pos o]
     exact aj (C _ _ _ _ _ _ (M2.le 'o'))
    ·rw[if_neg o]
     exact aj {_,_,_,_,_,rfl,M2}
 ·obtain⟨d,h,g,i,l,e,M⟩:=r
  have:=M.ha;have:=M.hb;have:=M.far;omega
instance Hq(L:KeyKind)(a b:Array Keyed)(st:SortSt)(lo:Nat)(r:ForInStep H7)(st':SortSt):Prop:=
 match r with
 | .done c=>(∃q z,c=(some q,z)/\DC L a b st q st')\/∃na nb out mg ca cb,c=(none,na,nb,out,mg,ca,cb)/\CZ L a b st na nb out st' lo
 | .yield c=>∃na nb out mg ca cb,c=(none,na,nb,out,mg,ca,cb)/\CZ L a b st na nb out st' lo
instance H3(a b:Array Keyed)(na nb:Nat)(out:Array Keyed)(mg ca cb:Nat):SM (ForInStep H7):=do
 let x <-elem' a (na-1)
 if (na-1 == 0)=true then pure (ForInStep.done ((some (Cn a b (out.push x) (na-1) nb),na-1,nb,out.push x,mg,ca,cb):H7))
 else if (decide (ca<7)&&decide (cb<7))=true then pure (ForInStep.done ((none,na-1,nb,out.push x,mg,ca,cb):H7)) else pure (ForInStep.yield ((none,na-1,nb,out.push x,mg,ca,cb):H7))
def lq(T:Tw prog w A E s L knd a b st){d:Array Keyed}{c f h g i r:Nat}{e:SortSt}(m:Mh L a b d.toList.reverse c f)(q:0<c)(p:1<f)(o:c<=a.size)(n:f<=b.size)(l:BE st e)(j:c+f+h<=a.size+b.size+1)(u:∀j,j<f->L.kle (KK L b j) (KK L a (c-1))) :
 wpS 'r' A E s (H3 a b c f d g i r) (Hq L a b st h) e:=by
 delta H3;refine af (aI (show c-1<a.size by omega) ?_);have i:=T.putA m q o u;by_cases g:c-1=0
 ·rw[if_pos (beq_iff_eq.mpr g)]
  exact aj (.inl {_,_,rfl,T.dA i n g l})
 ·rw[if_neg (λz=>g (beq_iff_eq.mp z))]
  have M2:CZ L a b st (c-1) f (d.push a[c-1]) e h:={i,'o',p,'o',n,l,'o'};split
  ·exact aj (.inr {_,_,_,_,_,_,rfl,M2})
  ·exact aj {_,_,_,_,_,_,rfl,M2}
instance H2(a b:Array Keyed)(na nb:Nat)(out:Array Keyed)(mg ca cb:Nat):SM (ForInStep H7):=do
 let y <-elem' b (nb-1)
 if (nb-1 == 1)=true then pure (ForInStep.done ((some (Ew a b (out.push y) na (nb-1)),na,nb-1,out.push y,mg,ca,cb):H7))
 else do
  let x <-elem' a (na-1)
  let p <-Ek true x b 0 (nb-1) (nb-1-1)
  match p with
  | some p=>
    if nb-1-p>0 then
     if (p == 1)=true then pure (ForInStep.done ((some (Ew a b (out.push y++(b.extract p (nb-1)).reverse) na p),na,p,out.push y++(b.extract p (nb-1)).reverse,mg,ca,nb-1-p):H7))
     else if (p == 0)=true then pure (ForInStep.done ((some (Cn a b (out.push y++(b.extract p (nb-1)).reverse) na p),na,p,out.push y++(b.extract p (nb-1)).reverse,mg,ca,nb-1-p):H7))
     else H3 a b na p (out.push y++(b.extract p (nb-1)).reverse) mg ca (nb-1-p)
    else H3 a b na (nb-1) (out.push y) mg ca (nb-1-p)
  | _=>pure (ForInStep.done ((some (Cn a b (out.push y) na (nb-1)),na,nb-1,out.push y,mg,ca,cb):H7))
def lr(T:Tw prog w A E s L knd a b st){e:Array Keyed}{c d v n o p:Nat}{f:SortSt}(m:Mh L a b e.toList.reverse c d)(G:0<c)(h:1<d)(g:c<=a.size)(r:d<=b.size)(l:BE st f)(i:c+d+v<=a.size+b.size+1)(u:∀j,j<c->L.kle (KK L a j) (KK L b (d-1))) :
 wpS 'r' A E s (H2 a b c d e n o p) (Hq L a b st v) f:=by
 obtain⟨q,rfl⟩:∃q,d=q+1:={d-1,(Nat.sub_add_cancel (BB h)).symm};have J:0<q:=Gv h;have n:q<=b.size:=BB r;have d:c-1<a.size:=A6 (Nat.sub_lt G Nat.one_pos) g;have o:∀{p},p<=q->c+p+v<=a.size+b.size+1:=λh=>Az (Nat.add_le_add_right (Dt (Nat.le_succ_of_le h) c) v) i
 delta H2;simp only[Nat.add_sub_cancel] at u ⊢;refine af (aI r ?_);have B:Mh L a b (e.push b[q]).toList.reverse c q:=T.putB m (Nat.succ_pos q) r u;by_cases f:q=1
 ·rw[if_pos (beq_iff_eq.mpr f)]
  exact aj (.inl {_,_,rfl,T.dF B g n f l})
 rw[if_neg (λz=>f (beq_iff_eq.mp z))];refine af (aI d (af (da (k9 T.C T.ka T.kb T.ub (by rw[As];exact n) d) (T.kind l) (Nat.sub_lt J Nat.one_pos) λp x h u=>?_)));show wpS _ _ _ _ (if q-p>0 then _ else _) _ _;simp only[As] at h u;have r:∀j,j<p->L.kle (KK L b j) (KK L a (c-1)):=λj y=>KeyOrd.kle_of_klt (h j y)
 by_cases e:q-p>0
 ·rw[if_pos e]
  have I:=Az x n;have C:=T.manyB B x n λi f m j h=>KeyOrd.kle_trans (T.ua j (c-1) (AF _) (Nat.le_sub_one_of_lt h) d) (u i f m)
  by_cases m:p=1
  ·rw[if_pos (beq_iff_eq.mpr m)]
   exact aj (.inl {_,_,rfl,T.dF C g I m l})
  rw[if_neg (λz=>m (beq_iff_eq.mp z))];by_cases h:p=0
  ·rw[if_pos (beq_iff_eq.mpr h)]
   exact aj (.inl {_,_,rfl,T.dB C g h l})
  rw[if_neg (λz=>h (beq_iff_eq.mp z))];exact lq T C G (FE (Nat.pos_of_ne_zero h) (Ne.symm m)) g I l (o x) r
 ·rw[if_neg e]
  exact lq T B G (FE J (Ne.symm f)) g n l (o (Ap q)) (λj y=>r j (A6 y (Nat.le_of_sub_eq_zero (Nat.eq_zero_of_not_pos e))))
instance H1(a b:Array Keyed)(na nb:Nat)(out:Array Keyed)(mg ca cb:Nat):SM (ForInStep H7):=do
 ET mg
 let y <-elem' b (nb-1)
 let p <-Ek false y a 0 na (na-1)
 match p with
 | some p=>
   if na-p>0 then
    if (p == 0)=true then pure (ForInStep.done ((some (Cn a b (out++(a.extract p na).reverse) p nb),p,nb,out++(a.extract p na).reverse,mg,na-p,cb):H7))
    else H2 a b p nb (out++(a.extract p na).reverse) mg (na-p) cb
   else H2 a b na nb out mg (na-p) cb
 | _=>pure (ForInStep.done ((some (Cn a b out na nb),na,nb,out,mg,ca,cb):H7))
def sE(T:Tw prog w A E s L knd a b st){d:Array Keyed}{g c q f h i:Nat}{e:SortSt}(M:CZ L a b st g c d e q):wpS 'r' A E s (H1 a b g c d f h i) (Hq L a b st (q+1)) e:=by
 delta H1;have u:=M.ha;have o:=M.hb;have d:=M.far;have m:=M.la;have h:=M.lb;refine af (fw M.like λd l=>?_);refine af (aI (show c-1<b.size by omega) (af (da (k8 T.C T.ka T.kb T.ua 'o' 'o') (T.kind l) 'o' λp r d e=>?_)));show wpS _ _ _ _ (if g-p>0 then _ else _) _ _;simp only[As] at d e;have n:∀j,j<p->L.kle (KK L a j) (KK L b (c-1)):=λj g1=>by
  have:=d j g1;exact(show L.blt (KK L b (c-1)) (KK L a j)=false by simpa using this)
 by_cases f:g-p>0
 ·rw[if_pos f]
  have g:=T.manyA M.m r m λi d v j x=>by
   have:=e i d v;exact KeyOrd.kle_trans (T.ub j (c-1) (AF _) 'o' 'o') (KeyOrd.kle_of_klt (show L.blt (KK L b (c-1)) (KK L a i)=true by simpa using this))
  by_cases d:p=0
  ·rw[if_pos (beq_iff_eq.mpr d)]
   exact aj (.inl {_,_,rfl,T.dA g h d l})
  rw[if_neg (λz=>d (beq_iff_eq.mp z))];exact lr T g 'o' o 'o' h l 'o' n
 ·rw[if_neg f]
  exact lr T M.m u o m h l 'o' (λj c=>n j 'o')
def HD(a b:Array Keyed)(c:H7):SM H7:=forIn [0:a.size+b.size] c λ_ r=>
 if r.2.2.2.2.1>1 then H1 a b r.2.1 r.2.2.1 r.2.2.2.1 (r.2.2.2.2.1-1) r.2.2.2.2.2.1 r.2.2.2.2.2.2 else H1 a b r.2.1 r.2.2.1 r.2.2.2.1 r.2.2.2.2.1 r.2.2.2.2.2.1 r.2.2.2.2.2.2
abbrev H5:=Option (Array Keyed)×Nat×Nat×Array Keyed×Nat
def IF(a b:Array Keyed)(r:H5):SM (ForInStep H5):=do
 let c <-HC a b r.2.2.2.2 (none,r.2.1,r.2.2.1,r.2.2.2.1,0,0)
 match c.1 with
 | some q=>pure (ForInStep.done (some q,c.2.1,c.2.2.1,c.2.2.2.1,r.2.2.2.2))
 | none=>do
   rule "list.sort.gallop"
   let d <-HD a b (none,c.2.1,c.2.2.1,c.2.2.2.1,r.2.2.2.2+1,c.2.2.2.2.1,c.2.2.2.2.2)
   match d.1 with
   | some q=>pure (ForInStep.done (some q,d.2.1,d.2.2.1,d.2.2.2.1,d.2.2.2.2.1))
   | none=>do
     ET (d.2.2.2.2.1+1)
     pure (ForInStep.yield (none,d.2.1,d.2.2.1,d.2.2.2.1,d.2.2.2.2.1+1))
def KS(c:H5):SM (Array Keyed):=match c.1 with
 | some q=>pure q
 | none=>unsupported "internal:list.sort.merge-bound"
open H in
def sF(a b:Array Keyed):mhi a b=(do
 rule "list.sort.merge-hi"
 let x <-elem' a (a.size-1)
 if (a.size-1 == 0)=true then pure (Cn a b #[x] (a.size-1) b.size)
 else if (b.size == 1)=true then pure (Ew a b #[x] (a.size-1) b.size)
 else do
  let st <-get
  let c <-forIn [0:a.size+b.size] ((none,a.size-1,b.size,#[x],gallopOf st):H5) λ_ r=>IF a b r
  KS c):=by
 rw[sB];refine congrArg _ (funext λ_=>?_);dsimp only;refine congrArg _ (funext λy=>?_);refine congrArg _ (congrArg _ (congrArg _ (funext λst=>?_)));refine congr (congrArg bind (congrArg _ (funext λ_=>funext λr=>?_))) ?_
 ·delta IF
  refine congr (congrArg bind ?_) (funext λc=>?_)
  ·delta HC;rfl
  ·obtain⟨f,g⟩:=c
   cases f with
   | some q=>rfl
   | none=>
     dsimp only;refine congrArg _ (funext λ_=>?_);refine congr (congrArg bind ?_) (funext λd=>?_)
     ·delta HD
      refine congrArg _ (funext λ_=>funext λr=>?_);delta H1 H2 H3;by_cases e:r.2.2.2.2.1>1
      ·first | rewrite [if_pos e,if_pos e] | rewrite [if_pos e]
       refine congrArg _ (funext λ_=>congrArg _ (funext λ_=>congrArg _ (funext λk=>?_)));cases k with
       | none=>rfl
       | some k=>rfl
      ·first | rewrite [if_neg e,if_neg e] | rewrite [if_neg e]
       refine congrArg _ (funext λ_=>congrArg _ (funext λ_=>congrArg _ (funext λk=>?_)));cases k with
       | none=>rfl
       | some k=>rfl
     ·obtain⟨e,h⟩:=d
      cases e<;>rfl
 ·funext c
  obtain⟨f,g⟩:=c;cases f<;>rfl
def sG(T:Tw prog w A E s L knd a b st){d:Array Keyed}{h i o g j l:Nat}{c:SortSt}(M:CZ L a b st h i d c o){Q:H7->SortSt->Prop}(u:∀q z f,DC L a b st q f->Q (some q,z) f)(v:∀h i d g j l f,CZ L a b st h i d f o->Q (none,h,i,d,g,j,l) f):wpS 'r' A E s (HD a b (none,h,i,d,g,j,l)) Q c:=by
 delta HD;refine aW (I:=λy c f=>∃h i d g j l,c=(none,h,i,d,g,j,l)/\CZ L a b st h i d f (o+y)) (λy c f e m p=>?_) (λc f p=>?_) ⟨h,i,d,g,j,l,rfl,M⟩
 ·obtain⟨h,i,d,g,j,l,e,M⟩:=p
  subst e;have fin:∀(g:Nat),wpS 'r' A E s (H1 a b h i d g j l) (λr c=>match r with | .done n=>Q n c | .yield n=>∃h i d g j l,n=(none,h,i,d,g,j,l)/\CZ L a b st h i d c (o+(y+1))) f:=λg=>aS (sE T M) λr c m=>by
   cases r with
   | done n=>
     rcases m with⟨q,z,e,f⟩ | ⟨h,i,d,g,j,l,e,M⟩
     ·subst e;exact u q z c f
     ·subst e;exact v _ _ _ _ _ _ c (M.le 'o')
   | yield n=>exact m
  show wpS _ _ _ _ (if g>1 then H1 a b h i d (g-1) j l else H1 a b h i d g j l) _ _;by_cases f:g>1
  ·rw[if_pos f];exact aS (fin (g-1)) λr c m=>by cases r<;>exact m
  ·rw[if_neg f];exact aS (fin g) λr c m=>by cases r<;>exact m
 ·obtain⟨h,i,d,g,j,l,e,M⟩:=p
  have:=M.ha;have:=M.hb;have:=M.far;omega
def sH(T:Tw prog w A E s L knd a b st)(e:0<a.size)(c:0<b.size){Q:Array Keyed->SortSt->Prop}(h:∀r d,BE st d->Ev L a b r.toList->Q r d):wpS 'r' A E s (mhi a b) Q st:=by
 rw[sF];refine af (wpS_lift (aZ {rfl,?_}));refine af (aI (show a.size-1<a.size by omega) ?_);have l:Mh L a b (#[a[a.size-1]]:Array Keyed).toList.reverse (a.size-1) b.size:=by
  have z:Mh L a b [] a.size b.size:={by rw[FZ 'd',FZ 'd',Cp],List.Pairwise.nil,λx c=>absurd c 'd',λx c=>absurd c 'd'};exact T.putA (out:=#[]) z e (Ap _) T.hl
 by_cases c:(a.size-1 == 0)=true
 ·rw[if_pos c]
  have f:=T.dA (out:=#[a[a.size-1]]) l (Ap _) (beq_iff_eq.mp c) BE.refl;exact aj (h _ _ f.1 f.2)
 rw[if_neg c];by_cases e:(b.size == 1)=true
 ·rw[if_pos e]
  have f:=T.dF (out:=#[a[a.size-1]]) l 'o' (Ap _) (beq_iff_eq.mp e) BE.refl;exact aj (h _ _ f.1 f.2)
 rw[if_neg e];have g:1<b.size:=by
  have:¬b.size=1:=by simpa using e
  omega
 have g:1<a.size:=by
  have:¬a.size-1=0:=λz=>c (beq_iff_eq.mpr z)
  omega
 refine af (wpS_get ?_);refine af (aS (aW (I:=λx c d=>∃g i out m,c=(none,g,i,out,m)/\CZ L a b st g i out d (1+x)) (Q:=λc d=>∃r z,c=(some r,z)/\DC L a b st r d) (λx c d n e j=>?_) (λc d j=>?_) {a.size-1,b.size,#[a[a.size-1]],_,rfl,l,'o','o','o','o',BE.refl,'o'}) λc d j=>?_)
 ·obtain⟨g,i,out,m,e,M⟩:=j
  subst e;delta IF;refine af (sD T M (λr z c f=>?_) λout g i l n c M2=>?_)
  ·exact aj {r,_,rfl,f}
  ·refine af (wpS_lift (aZ {rfl,?_}))
   refine af (sG T M2 (λq z d f=>?_) λg i out m l n d c=>?_)
   ·exact aj {q,_,rfl,f}
   ·exact af (fw c.like λd l=>aj {g,i,out,_,rfl,c.m,c.ha,c.hb,c.la,c.lb,l,c.far})
 ·obtain⟨g,i,out,m,e,M⟩:=j
  have:=M.ha;have:=M.hb;have:=M.far;omega
 ·obtain⟨r,z,e,f⟩:=j
  subst e;exact aj (h _ _ f.1 f.2)
end
instance back(sa:Nat)(l:List Keyed)(xs:Array Keyed):Array Keyed:=l.zipIdx.foldl (λu (p,j)=>u.setIfInBounds (sa+j) p) xs
def sI(i:Nat):mergeAt' i=(do
 let z <-get
 let (some (sa,na,pw),some (sb,nb,_)):=((pendingOf z)[i]?,(pendingOf z)[i+1]?) | unsupported "internal:list.sort.pending"
 set (setPending z (((pendingOf z).setIfInBounds i (sa,na+nb,pw)).eraseIdxIfInBounds (i+1)))
 let some k <-Ek false (<-elem' (arrOf z) sb) (arrOf z) sa na 0 | return false
 let (sa,na):=(sa+k,na-k)
 if na == 0 then return true
 let some nb <-Ek true (<-elem' (arrOf z) (sa+na-1)) (arrOf z) sb nb (nb-1) | return false
 if nb == 0 then return true
 let x:=(arrOf z).extract sa sb
 let y:=(arrOf z).extract sb (sb+nb)
 let out <-if na<=nb then mlo x y else mhi x y
 modify λv=>setArr v (back sa out.toList (arrOf v))
 return (failedOf (<-get)).isNone):=rfl
def sJ(b:Nat)(l:List Keyed)(a:Array Keyed):(back b l a).size=a.size:=by
 delta back
 suffices h:∀(l:List (Keyed×Nat)) (a:Array Keyed),(l.foldl (λu (p,j)=>u.setIfInBounds (b+j) p) a).size=a.size from h _ _
 intro l;induction l with
 | nil=>intro a;rfl
 | cons q l b=>intro a;rw[List.foldl_cons,b];simp
def sK(a:Nat)(l:List Keyed)(b:Array Keyed)(h:a+l.length<=b.size)(i:Nat):(back a l b)[i]?=if a<=i/\i<a+l.length then l[i-a]? else b[i]?:=by
 delta back
 suffices g:∀(l:List Keyed) (n:Nat) (b:Array Keyed),a+n+l.length<=b.size->((l.zipIdx n).foldl (λu (p,j)=>u.setIfInBounds (a+j) p) b)[i]?=if a+n<=i/\i<a+n+l.length then l[i-(a+n)]? else b[i]? by
  have:=g l 0 b (by simpa using h);simpa using this
 intro l;induction l with
 | nil=>intro n b _;simp;omega
 | cons q l c=>
   intro n b h;simp only[CD] at h;rw[List.zipIdx_cons,List.foldl_cons,c (n+1) _ (by simp;omega)];rw[Array.getElem?_setIfInBounds];by_cases c:a+n=i
   ·subst c
    rw[if_neg 'o',if_pos rfl,if_pos 'o',if_pos 'd'];simp
   ·rw[if_neg (show ¬a+n=i from c)]
    by_cases d:a+n<=i/\i<a+n+(l.length+1)
    ·rw[if_pos 'o',if_pos (by simpa using d)]
     rw[show i-(a+n)=(i-(a+(n+1)))+1 by omega];simp
    ·rw[if_neg 'o',if_neg (by simpa using d)]
def sL(a:Nat)(l:List Keyed)(b:Array Keyed)(h:a+l.length<=b.size):(back a l b).toList=b.toList.take a++(l++b.toList.drop (a+l.length)):=by
 refine FJ λi=>?_
 have:=sK a l b h i;rw[<-Hf] at this;have c:b.toList.length=b.size:=by simp
 rw[this,List.getElem?_append,CO,Fk 'o'];by_cases c:i<a
 ·rw[if_neg 'o',if_pos c,List.getElem?_take,if_pos c]
  simp
 ·rw[if_neg c,List.getElem?_append]
  by_cases d:i<a+l.length
  ·rw[if_pos 'o',if_pos 'o']
  ·rw[if_neg 'o',if_neg 'o',List.getElem?_drop]
   simp;congr 1;omega
section
variable{knd:SortKind}{st:SortSt}
def sM{z:SortSt}{Q:PUnit->SortSt->Prop}(h:Q ⟨⟩ z):wpS 'r' A E s (set z:SM PUnit) Q st:=by
 delta wpS;rw[StateT.run_set];exact Ao ⟨rfl,h⟩
def sN{a:Array Keyed}(h:a.toList.Pairwise (le L)):Up L a 0 a.size:=λi j _ g2 g3=>by
 by_cases e:i=j
 ·subst e;exact KeyOrd.kle_refl _
 ·have g4:=Cb g2 g3
  have:=FY.mp h i j g4 g3 (FE g2 e);rw[aD g4,aD g3];simpa using this
def sO{a:Array Keyed}{i k:Nat}{x:Keyed}(h:x∈(a.toList.drop i).take k):∃j,i<=j/\j<i+k/\j<a.size/\ky L x=KK L a j:=by
 obtain⟨j,b,e⟩:=List.getElem_of_mem h;rw[CO,List.length_drop,Ee] at b;obtain⟨d,f⟩:=Nat.lt_min.mp b;have c:i+j<a.size:=by rw[Cq];exact Gx f
 refine{i+j,CA i j,EC d i,c,?_};rw[aD c,<-e];simp[List.getElem_take,List.getElem_drop]
def df{b:Array Keyed}{a c t:Nat}(e:c<=b.size)(d:a+t<c):KK L (b.extract a c) t=KK L b (a+t):=KK_congr (by rw[Array.getElem?_extract,Fk e,if_pos (Nat.lt_sub_of_add_lt (Cq a t▸d))])
def eB{b:Array Keyed}{c a:Nat}(d:a<=b.size):(b.extract c a).size=a-c:=by rw[Array.size_extract,Fk d]
def lu{b:Array Keyed}{p q:Nat}(e:q<=b.size)(u:Up L b p q){a c:Nat}(h:p<=a)(f:c<=q):Up L (b.extract a c) 0 (b.extract a c).size:=λi j _ g2 g3=>by
 have d:=Az f e;rw[eB d] at g3;have e:a+j<c:=by rw[Cq];exact Gx g3
 have g:=Dt g2 a;rw[df d (Cb g e),df d e];exact u _ _ (Az h (CA a i)) g (A6 e f)
def lv{b:Array Keyed}(h:KeysOf L b){c d:Nat}:KeysOf L (b.extract c d):=λp a=>h p (by
 rw[Array.toList_extract,List.extract_eq_drop_take] at a;exact List.mem_of_mem_drop (Gy a))
def sP{a:Array Keyed}{k n m:Nat}{l:List Keyed}(f:k<=n)(b:n<=m)(r:m<=a.size)(W:Ev L (a.extract k n) (a.extract n m) l)(o:Up L a 0 n)(B:Up L a n a.size)(A:∀i,i<k->∀j,n<=j->j<a.size->L.kle (KK L a i) (KK L a j))(C:∀i,i<n->∀j,m<=j->j<a.size->L.kle (KK L a i) (KK L a j)) :
 (back k l a).Perm a/\Up L (back k l a) 0 (back k l a).size:=by
 have z:=Az b r;have d:=Az f b;have e:l.length=m-k:=by
  have g:(a.extract k n).toList.length=n-k:=eB z;have c:(a.extract n m).toList.length=m-n:=eB r;rw[W.1.length_eq,A7,g,c,Cq,Nat.sub_add_sub_cancel b f]
 have c:k+(m-k)=m:=FC d;have bl:=sL k l a (by rw[e,c];exact r);rw[e,c] at bl;have d:(a.extract k n).toList++(a.extract n m).toList=(a.toList.drop k).take (m-k):=by
  rw[bu z,bu r,<-Nat.sub_add_sub_cancel b f,Cq (m-n),List.take_add,List.drop_drop,FC f]
 have y:=W.1;rw[d] at y;have Em:∀{i j},i<=j->j<n->L.kle (KK L a i) (KK L a j):=λh g=>o _ _ (AF _) h g
 refine{?_,sN ?_}
 ·rw[Array.perm_iff_toList_perm,bl]
  have:a.toList=a.toList.take k++((a.toList.drop k).take (m-k)++a.toList.drop m):=by
   conv=>rhs;rw[<-c,<-List.drop_drop,G8,List.take_append_drop,List.take_append_drop]
  refine List.Perm.trans (List.Perm.append_left _ (List.Perm.append_right _ y)) ?_;rw[<-this]
 ·rw[bl]
  have g:∀{p q:Nat},q<=a.size->Up L a p q->((a.toList.drop p).take (q-p)).Pairwise (le L):=λ{p q} e u=>by
   rw[FY];intro i j v o d;have s:∀{i},i<((a.toList.drop p).take (q-p)).length->p+i<q:=λh=>by
    rw[CO] at h;rw[Cq];exact Gx (A6 h (Nat.min_le_left _ _))
   have:=u (p+i) (p+j) (CA p i) (Dt (BB d) p) (s o);rw[aD (A6 (s v) e),aD (A6 (s o) e)] at this;simpa [List.getElem_drop,List.getElem_take] using this
  have u:∀x∈l,∃j,k<=j/\j<m/\ky L x=KK L a j:=λx h=>by
   obtain⟨j,d,s,_,e⟩:=sO (L:=L) (y.mem_iff.mp h);exact{j,d,c▸s,e}
  refine EB.mpr {?_,EB.mpr {W.2,?_,λx h y c=>?_},λx h y c=>?_}
  ·exact g (p:=0) (q:=k) (Az f z) (λi j g1 g2 g3=>Em g2 (A6 g3 f))
  ·have:=g (p:=m) (q:=a.size) (Ap _) (λi j g1 g2 g3=>B i j (Az b g1) g2 g3)
   rwa [FZ 'd'] at this
  ·obtain⟨i,d,s,e⟩:=u x h
   obtain⟨j,f,g,l⟩:=db (L:=L) c;show L.kle (ky L x) (ky L y);rw[e,l];by_cases v:i<n
   ·exact C i v j f g
   ·exact B i j (EE v) (BB (A6 s f)) g
  ·obtain⟨i,d,s,e⟩:=eA (L:=L) h
   show L.kle (ky L x) (ky L y);rw[e];rcases BN.mp c with c | c
   ·obtain⟨j,f,g,l⟩:=u y c
    rw[l];by_cases o:j<n
    ·exact Em (BB (A6 d f)) o
    ·exact A i d j (EE o) (A6 g r)
   ·obtain⟨j,f,g,l⟩:=db (L:=L) c
    rw[l];exact A i d j (Az b f) g
def ly{a:Array Keyed}{n:Nat}(f:0<n)(c:n<a.size)(b:Up L a 0 n)(d:Up L a n a.size)(h:L.kle (KK L a (n-1)) (KK L a n)):Up L a 0 a.size:=λi j g1 g2 g3=>by
 by_cases c:j<n
 ·exact b i j g1 g2 c
 ·by_cases e:n<=i
  ·exact d i j e g2 g3
  ·exact KeyOrd.kle_trans (b i (n-1) g1 (Nat.le_sub_one_of_lt (Nat.lt_of_not_le e)) (Nat.sub_lt f Nat.one_pos)) (KeyOrd.kle_trans h (d n j (Ap _) (EE c) g3))
def sQ(C:Dv prog w A E s L knd)(a:KeysOf L a₀){base n j:Nat}(c:Up L a₀ base (base+n))(b:base+n<=a₀.size)(d:j<a₀.size):Cut prog w A E s knd false a₀[j] a₀ base n (λi=>!L.blt (KK L a₀ j) (KK L a₀ (base+i))) where
 far:=λi st Q e b h=>by
  delta far;refine af (aI 'o' ?_);show wpS _ _ _ _ (lt' a₀[j] a₀[base+i] >>= λx=>pure (x.map (!·))) Q st;exact af (de C b a a d 'o' (aj h))
 mono:=λi k a b h=>by
  have h:L.blt (KK L a₀ j) (KK L a₀ (base+k))=false:=by simpa using h
  have:=KeyOrd.kle_trans (c (base+i) (base+k) 'o' 'o' 'o') h;have:L.blt (KK L a₀ j) (KK L a₀ (base+i))=false:=this;simp[this]
def sR(C:Dv prog w A E s L knd)(a:KeysOf L a₀){base n i:Nat}(d:Up L a₀ base (base+n))(b:base+n<=a₀.size)(e:i<a₀.size):Cut prog w A E s knd true a₀[i] a₀ base n (λk=>L.blt (KK L a₀ (base+k)) (KK L a₀ i)) where
 far:=λk st Q c b h=>by
  delta far;refine af (aI 'o' ?_);show wpS _ _ _ _ (lt' a₀[base+k] a₀[i]) Q st;exact de C b a a 'o' e h
 mono:=λp q a b h=>KeyOrd.klt_of_kle_of_klt (d (base+p) (base+q) 'o' 'o' 'o') h
def sT{a:Array Keyed}(h:KeysOf L a₀)(p:a.Perm a₀):KeysOf L a:=λq b=>h q ((Array.perm_iff_toList_perm.mp p).mem_iff.mp b)
def sU(C:Dv prog w A E s L knd)(f:KeysOf L a₀){a d e:Nat}(B:Bs a₀ knd #[(0,a,e),(a,d,0)] st)(j:0<a)(p:0<d)(i:a+d=a₀.size)(q:Up L (arrOf st) 0 a)(g:Up L (arrOf st) a a₀.size){Q:Bool->SortSt->Prop}(h:∀b,Bs a₀ knd #[(0,a+d,e)] b->Up L (arrOf b) 0 a₀.size->Q true b):wpS 'r' A E s (mergeAt' 0) Q st:=by
 rw[sI];refine af (wpS_get ?_);have m:(pendingOf st)[0]?=some (0,a,e):=by rw[B.pend];rfl
 have l:(pendingOf st)[0+1]?=some (a,d,0):=by rw[B.pend];rfl
 have c:∀z:Nat×Nat×Nat,((pendingOf st).setIfInBounds 0 z).eraseIdxIfInBounds (0+1)=#[z]:=λz=>by rw[B.pend];simp[Array.eraseIdxIfInBounds]
 rw[m,l];dsimp only;rw[c];refine af (sM ?_);have x:=B.size;have y:=sT f B.perm;have c:Up L (arrOf st) a (arrOf st).size:=by rw[x];exact g
 have f:Bs a₀ knd #[(0,a+d,e)] (setPending st #[(0,a+d,e)]):=⟨B.perm,B.kind,B.fail,rfl⟩;generalize g:setPending st #[(0,a+d,e)]=st1 at f;have l:arrOf st1=arrOf st:=by rw[<-g]
 rw[<-l] at x y q c ⊢;have fin:Up L (arrOf st1) 0 (arrOf st1).size->Q true st1:=λu=>h st1 f (by rw[<-x];exact u)
 generalize G:arrOf st1=xs at *;have B:a+d=xs.size:=i.trans x.symm;have r:a<xs.size:=B▸Nat.lt_add_of_pos_right p;have M:a-1<a:=Nat.sub_lt j Nat.one_pos;have u:=BB r;refine af (aI r (af (da (sQ C y (base:=0) (n:=a) (by simpa using q) (by rw[As];exact u) r) f.kind j λk N e l=>?_)));dsimp only;simp only[As] at e l ⊢;have e:∀i,i<k->L.kle (KK L xs i) (KK L xs a):=λi I=>(show L.blt (KK L xs a) (KK L xs i)=false by simpa using e i I)
 have l:∀i,k<=i->i<a->L.blt (KK L xs a) (KK L xs i)=true:=λi m o=>by simpa using l i m o
 by_cases g:a-k=0
 ·rw[if_pos (beq_iff_eq.mpr g)]
  exact aj (fin (ly j r q c (e _ (A6 M (Nat.le_of_sub_eq_zero g)))))
 rw[if_neg (λz=>g (beq_iff_eq.mp z))];have o:0<a-k:=Nat.pos_of_ne_zero g;rw[show k+(a-k)-1=a-1 by rw[FC N]];have J:k+(a-k-1)=a-1:=by rw[<-Nat.add_sub_assoc o,FC N]
 have g:=Nat.lt_trans M r;refine af (aI g (af (da (sR C y (base:=a) (n:=d) (by rw[B];exact c) (BQ B) g) f.kind (Nat.sub_lt p Nat.one_pos) λm O v d=>?_)));dsimp only;by_cases g:m=0
 ·rw[if_pos (beq_iff_eq.mpr g)]
  exact aj (fin (ly j r q c (d 0 (BQ g) p)))
 rw[if_neg (λz=>g (beq_iff_eq.mp z))];have d:∀j,a+m<=j->j<xs.size->L.kle (KK L xs (a-1)) (KK L xs j):=λj g1 g2=>by
  obtain⟨t,rfl⟩:=Nat.le.dest (Az (CA a m) g1);exact d t (Nat.le_of_add_le_add_left g1) (Nat.lt_of_add_lt_add_left (B▸g2))
 have p:a+m<=xs.size:=B▸Dt O a;have z:(xs.extract k a).size=a-k:=eB u;have O:(xs.extract a (a+m)).size=m:=by rw[eB p,G8]
 have B:=Nat.pos_of_ne_zero g;have r:a+0<a+m:=EC B a;have P:∀{j},j<a-k->k+j<a:=λh=>by rw[Cq];exact Gx h
 have T:Tw prog w A E s L knd (xs.extract k a) (xs.extract a (a+m)) st1:=by
  refine{{C,lv y,lv y,lu u q (AF _) (Ap _),lu (Ap _) c (Ap _) p,λj g=>?_,f.kind},λj g=>?_}
  ·rw[O] at g
   rw[z,df u (by rw[J];exact M),df p (EC g a),J];exact KeyOrd.kle_of_klt (v j g)
  ·rw[z] at g
   rw[df p r,df u (P g)];exact KeyOrd.kle_of_klt (l _ (CA k j) (P g))
 have u:∀(r:Array Keyed) (b:SortSt),BE st1 b->Ev L (xs.extract k a) (xs.extract a (a+m)) r.toList->wpS 'r' A E s (do
  modify λv=>setArr v (back k r.toList (arrOf v))
  return (failedOf (<-get)).isNone) Q b:=λr b l W=>by
  have J:=sP N (CA a m) p W q c (λi I j g1 g2=>KeyOrd.kle_trans (e i I) (c a j (Ap _) g1 g2)) (λi I j g1 g2=>KeyOrd.kle_trans (q i (a-1) (AF _) (Nat.le_sub_one_of_lt I) M) (d j g1 g2));refine af (bq (af (wpS_get ?_)));have d:failedOf b=none:=l.fail.trans f.fail;have c:arrOf b=xs:=l.arr.trans G;have e:(failedOf (setArr b (back k r.toList (arrOf b)))).isNone=true:=by show (failedOf b).isNone=true;rw[d];rfl
  rw[e];refine aj (h _ {?_,l.kind.trans f.kind,d,l.pend.trans f.pend} ?_)
  ·show (back k r.toList (arrOf b)).Perm a₀
   rw[c];have:=f.perm;rw[G] at this;exact J.1.trans this
  ·show Up L (back k r.toList (arrOf b)) 0 a₀.size
   rw[c];have:=J.2;rwa [sJ,x] at this
 by_cases b:a-k<=m
 ·rw[if_pos b]
  refine af (sA T.toTwo (z▸o) (Nat.lt_of_lt_of_eq B O.symm) (T.hf 0 (z▸o)) u)
 ·rw[if_neg b]
  refine af (sH T (z▸o) (Nat.lt_of_lt_of_eq B O.symm) u)
def sV{n:Nat}(a:2<=n)(h:n<128):∃m,minRun' n n 0=m/\1<=m/\m<=n/\n<=2*m:=by
 obtain⟨f,rfl⟩:∃f,n=f+1+1:={n-2,'o'};rw[minRun'_succ];by_cases a:f+1+1<64
 ·rw[if_pos a]
  exact{_,rfl,'o','o','o'}
 ·rw[if_neg a,minRun'_succ,if_pos 'o']
  exact{_,rfl,'o','o','o'}
def lz{c b:Array Keyed}{a d i:Nat}(o:BK c b a d)(h:i<a\/d<=i):KK L b i=KK L c i:=KK_congr (o i h)
def Up.out{c a:Array Keyed}{b d n:Nat}(u:Up L c 0 n)(o:BK c a b d)(h:n<=b):Up L a 0 n:=λi j g1 g2 g3=>by
 rw[lz o (.inl 'o'),lz o (.inl 'o')];exact u i j g1 g2 g3
def IG(L:KeyKind)(a₀:Array Keyed)(knd:SortKind)(m x lo:Nat)(st:SortSt):Prop:=
 (x=0/\lo=0/\Bs a₀ knd #[] st)\/
 (x=1/\lo<a₀.size/\m<=lo/\Bs a₀ knd #[(0,lo,0)] st/\Up L (arrOf st) 0 lo)\/
 (1<=x/\lo=a₀.size/\∃pw,Bs a₀ knd #[(0,a₀.size,pw)] st/\Up L (arrOf st) 0 a₀.size)\/
 (2<=x/\lo=a₀.size/\∃n1 n2 pw,0<n1/\0<n2/\n1+n2=a₀.size/\Bs a₀ knd #[(0,n1,pw),(n1,n2,0)] st/\Up L (arrOf st) 0 n1/\Up L (arrOf st) n1 a₀.size)
instance DQ(L:KeyKind)(a₀:Array Keyed)(knd:SortKind)(st:SortSt):Prop:=
 (∃pw,Bs a₀ knd #[(0,a₀.size,pw)] st/\Up L (arrOf st) 0 a₀.size)\/
 ∃n1 n2 pw,0<n1/\0<n2/\n1+n2=a₀.size/\Bs a₀ knd #[(0,n1,pw),(n1,n2,0)] st/\Up L (arrOf st) 0 n1/\Up L (arrOf st) n1 a₀.size
def Bs.push{P:Array (Nat×Nat×Nat)}(B:Bs a₀ knd P st)(z:Nat×Nat×Nat):Bs a₀ knd (P.push z) (setPending st ((pendingOf st).push z)):={B.perm,B.kind,B.fail,by show (pendingOf st).push z=_;rw[B.pend]}
def lA{m n:Nat}(B:Bs a₀ knd #[] st)(b:m<=n)(a:1<=m)(c:n<=a₀.size)(u:Up L (arrOf st) 0 (0+n)):IG L a₀ knd m (0+1) (0+n) (setPending st ((pendingOf st).push (0,n,0))):=by
 have a:=B.push (0,n,0);simp only[As] at u ⊢;by_cases c:n=a₀.size
 ·subst c
  exact .inr (.inr (.inl {'o',rfl,0,a,u}))
 ·exact .inr (.inl {rfl,'o',b,a,u})
def sW(C:Dv prog w A E s L knd)(v:KeysOf L a₀)(B:Bs a₀ knd #[] st)(d:2<=a₀.size)(a:a₀.size<128){Q:Unit->SortSt->Prop}(h:∀e,(arrOf e).Perm a₀->failedOf e=none->Up L (arrOf e) 0 a₀.size->Q () e):wpS 'r' A E s sortRuns' Q st:=by
 rw[sortRuns'_eq];refine af (wpS_get ?_);dsimp only;obtain⟨m,c,b,g,f⟩:=sV d a;simp only[B.size,c];refine af (aS (aW (I:=λx c e=>∃d,c=(none,d)/\IG L a₀ knd m x d e) (Q:=λc e=>∃d,c=(none,d)/\DQ L a₀ knd e) ?step ?fin {0,rfl,.inl ⟨rfl,rfl,B⟩}) ?post);case fin=>
  rintro c e ⟨d,rfl,R⟩;rcases R with⟨N,_,_⟩ | ⟨N,_,_⟩ | ⟨_,_,R⟩ | ⟨_,_,R⟩
  ·omega
  ·omega
  ·exact{d,rfl,.inl R}
  ·exact{d,rfl,.inr R}
 case step=>
  rintro x c e _ N ⟨d,rfl,R⟩;dsimp only;rcases R with⟨rfl,rfl,y⟩ | ⟨rfl,f,a,y,u⟩ | ⟨_,rfl,R⟩ | ⟨_,rfl,R⟩
  ·rw[if_neg 'o']
   refine af (kW C v y 'o' 'o' λn a i r l s o=>?_);dsimp only;by_cases j:n<m
   ·rw[if_pos j]
    refine af (wpS_lift (aZ {rfl,?_}));rw[Nat.sub_zero,Nat.min_eq_right g];refine af (kZ C v i 'o' 'o' s λf p M E=>?_);simp only[Fq,Du,if_false];refine af (wpS_get ?_);have q:(pendingOf f).back?=none:=by rw[p.pend];rfl
    rw[q];dsimp only;exact af (bq (aj {_,rfl,lA p (Ap _) b g M}))
   ·rw[if_neg j]
    refine af (wpS_get ?_);have q:(pendingOf a).back?=none:=by rw[i.pend];rfl
    rw[q];dsimp only;exact af (bq (aj {_,rfl,lA i 'o' b 'o' s}))
  ·rw[if_neg 'o']
   have z:∀(a:SortSt) (n:Nat),n=a₀.size-d->Bs a₀ knd #[(0,d,0)] a->Up L (arrOf a) d (d+n)->Up L (arrOf a) 0 d->∀g,IG L a₀ knd m (1+1) (d+n) (setPending (setPending a ((pendingOf a).modify ((pendingOf a).size-1) λ(st,b,_)=>(st,b,g))) ((pendingOf (setPending a ((pendingOf a).modify ((pendingOf a).size-1) λ(st,b,_)=>(st,b,g)))).push (d,n,0))):=λa n b i A u g=>by
    subst b;rw[show d+(a₀.size-d)=a₀.size by omega] at A ⊢;refine .inr (.inr (.inr {'o',rfl,d,a₀.size-d,g,'o','o','o',{i.perm,i.kind,i.fail,?_},u,A}));show ((pendingOf a).modify ((pendingOf a).size-1) _).push _=_;rw[i.pend];rfl
   have b:∀(a:SortSt) (n g:Nat) (b:ForInStep (Option Unit×Nat)->SortSt->Prop),Bs a₀ knd #[(0,d,0)] a->True:=λ_ _ _ _ _=>trivial
   refine af (kW C v y 'o' 'o' λn a i r l s o=>?_);have r:=u.out o (Ap _);dsimp only;by_cases j:n<m
   ·rw[if_pos j]
    refine af (wpS_lift (aZ {rfl,?_}));rw[Fk (show a₀.size-d<=m by omega)];refine af (kZ C v i 'o' 'o' s λf p M E=>?_);have o:=r.out E (Ap _);simp only[Fq,Du,if_false];refine af (wpS_get ?_);have q:(pendingOf f).back?=some (0,d,0):=by rw[p.pend];rfl
    rw[q];dsimp only;refine af (aS (aW (I:=λ_ c b=>c=(none,())/\b=f) (Q:=λc b=>c=(none,())/\b=f) (λy c b E J l=>?_) (λc b l=>l) ⟨rfl,rfl⟩) λc b l=>?_)
    ·obtain⟨n,m⟩:=l
     subst n;rw[m];refine af (wpS_get ?_);have G:(pendingOf f).size=1:=by rw[p.pend];rfl
     rw[if_neg (show ¬(pendingOf f).size>1 by omega)];exact aj ⟨rfl,rfl⟩
    ·obtain⟨n,m⟩:=l
     subst n m;dsimp only;exact af (bq (af (bq (aj {_,rfl,z _ _ rfl p M o _}))))
   ·rw[if_neg j]
    refine af (wpS_get ?_);have q:(pendingOf a).back?=some (0,d,0):=by rw[i.pend];rfl
    rw[q];dsimp only;refine af (aS (aW (I:=λ_ c b=>c=(none,())/\b=a) (Q:=λc b=>c=(none,())/\b=a) (λy c b E J l=>?_) (λc b l=>l) ⟨rfl,rfl⟩) λc b l=>?_)
    ·obtain⟨n,m⟩:=l
     subst n;rw[m];refine af (wpS_get ?_);have G:(pendingOf a).size=1:=by rw[i.pend];rfl
     rw[if_neg (show ¬(pendingOf a).size>1 by omega)];exact aj ⟨rfl,rfl⟩
    ·obtain⟨n,m⟩:=l
     subst n m;dsimp only;exact af (bq (af (bq (aj {_,rfl,z _ _ 'o' i s r _}))))
  ·rw[if_pos (Ap _)]
   exact aj {_,rfl,.inl R}
  ·rw[if_pos (Ap _)]
   exact aj {_,rfl,.inr R}
 case post=>
  rintro c e ⟨d,rfl,R⟩;dsimp only;refine af (aS (aW (I:=λx c a=>c=(none,())/\((x=0/\DQ L a₀ knd a)\/∃g,Bs a₀ knd #[(0,a₀.size,g)] a/\Up L (arrOf a) 0 a₀.size)) (Q:=λc a=>c=(none,())/\∃g,Bs a₀ knd #[(0,a₀.size,g)] a/\Up L (arrOf a) 0 a₀.size) ?_ ?_ {rfl,.inl ⟨rfl,R⟩}) ?_)
  ·rintro x c a _ _ ⟨rfl,R⟩
   refine af (wpS_get ?_);have d:(∃g,Bs a₀ knd #[(0,a₀.size,g)] a/\Up L (arrOf a) 0 a₀.size)->(pendingOf a).size=1:=λ⟨g,B,_⟩=>by rw[B.pend];rfl
   rcases R with⟨_,R | ⟨e,f,g,g1,g2,g3,p,u,A⟩⟩ | R
   ·rw[if_pos (by rw[d R];exact Ap 1)]
    exact aj ⟨rfl,R⟩
   ·have G:(pendingOf a).size=2:=by rw[p.pend];rfl
    rw[if_neg 'o',G];show wpS _ _ _ _ (mergeAt' 0 >>= _) _ _;refine af (sU C v p g1 g2 g3 u A λb e f=>?_);rw[g3] at e;exact aj {rfl,.inr ⟨g,e,f⟩}
   ·rw[if_pos (by rw[d R];exact Ap 1)]
    exact aj ⟨rfl,R⟩
  ·rintro c a ⟨rfl,R⟩
   rcases R with⟨N,_⟩ | R
   ·omega
   ·exact⟨rfl,R⟩
  ·rintro c a ⟨rfl,g,B,u⟩
   exact aj (h _ B.perm B.fail u)
end
open PySem PyProof PyProof.Rows
def JR(h:Heap):Value->Option (Int×Int)
 | .ref a=>match h.get? a with
   | some o=>match o.data with
     | .seq xs _=>match xs.toList with
       | [.int x _,.int y _]=>some (x,y)
       | _=>none
     | _=>none
   | none=>none
 | _=>none
def Bk(h:Heap)(v:Value)(p:Int×Int):Prop:=∃a o n t u,v=.ref a/\h.get? a=some o/\o.cls=.type "tuple"/\o.data=.seq #[.int p.1 t,.int p.2 u] n
def Bk.key{h:Heap}{v:Value}{p:Int×Int}(z:Bk h v p):JR h v=some p:=by
 obtain⟨a,o,n,t,u,rfl,g,_,d⟩:=z;simp[JR,g,d]
instance lx(a b:Int×Int):Bool:=decide (a.1<b.1\/a.1=b.1/\a.2<b.2)
def lx_iff{a b:Int×Int}:lx a b=true↔(a.1<b.1\/a.1=b.1/\a.2<b.2):=decide_eq_true_iff
def cI{a b:Int×Int}:lx a b=false↔¬(a.1<b.1\/a.1=b.1/\a.2<b.2):=decide_eq_false_iff_not
def hD(a:Int×Int):lx a a=false:=cI.mpr λh=>h.elim (Int.lt_irrefl _) λz=>Int.lt_irrefl _ z.2
def eC(e:lx a b=true)(d:lx b c=true):lx a c=true:=lx_iff.mpr (match lx_iff.mp e,lx_iff.mp d with
 | .inl p,.inl q=>.inl (Int.lt_trans p q)
 | .inl p,.inr q=>.inl (q.1▸p)
 | .inr p,.inl q=>.inl (p.1▸q)
 | .inr p,.inr q=>.inr {p.1.trans q.1,Int.lt_trans p.2 q.2})
def fx(d:lx a b=false)(c:lx b a=false):a=b:=
 have e:a.1=b.1:=Int.le_antisymm (Int.not_lt.mp λz=>cI.mp c (.inl z)) (Int.not_lt.mp λz=>cI.mp d (.inl z))
 Prod.ext e (Int.le_antisymm (Int.not_lt.mp λz=>cI.mp c (.inr ⟨e.symm,z⟩)) (Int.not_lt.mp λz=>cI.mp d (.inr ⟨e,z⟩)))
def lB(b:Int×Int)(h:lx a c=true):lx a b=true\/lx b c=true:=
 match e:lx a b with
 | true=>.inl rfl
 | false=>match e':lx b a with
   | true=>.inr (eC e' h)
   | false=>.inr (fx e e'▸h)
section
variable{prog:Program}{w:World}{A:Around}{E:Value->Shared->Prop}{s:Shared}
def sX{x y:Int}{t u:Tok}{Q:Bool->Shared->Prop}(h:Q (decide (x<y)) s):wpAny 'r' A (oneLt' false (.int x t) (.int y u)) Q E s:=by
 rw[oneLt'_eq];simp only[Du,if_false];refine Ac (wpAny_richCompare_same (id:="int.__lt__") (typeIs_int s x t) (typeIs_int s y u) slot_int_lt (call_int_lt {'d',?_}));exact Ec h
end
instance lxle(a b:Int×Int):Prop:=a.1<b.1\/a.1=b.1/\a.2<=b.2
def sY{a b:Int×Int}(h:lx b a=false):lxle a b:=
 have n:=cI.mp h
 match Int.lt_trichotomy a.1 b.1 with
 | .inl p=>.inl p
 | .inr (.inl e)=>.inr {e,Int.not_lt.mp λz=>n (.inr ⟨e.symm,z⟩)}
 | .inr (.inr p)=>absurd (.inl p) n
section
variable{prog:Program}{w:World}{A:Around}{E:Value->Shared->Prop}{s:Shared}
abbrev El(h:Heap)(a:Addr)(vs:List Value):Heap:=((h.update a (Obj.mapSeq λ_=>#[])).push (seqObj "tuple" vs.toArray 0)).push (seqObj "list" #[] 0)
def sZ{h:Heap}{a b:Addr}{o:Obj}{c:List Value}(g:h.get? b=some o)(d:b≠a):(El h a c).get? b=some o:=by
 have a:=Heap.lt_size g;delta El;rw[GB _ _ _ (by rw[size_push',Heap.size_update];exact Br (Nat.lt_succ_of_lt a)),GB _ _ _ (by rw[Heap.size_update];exact Br a),Heap.get?_update_ne _ _ _ _ d];exact g
end
end Ts
namespace L2
open PySem PySem.Spec PyProof PyProof.Rows Ts
def s5{α β:Type}{F:α->β->Prop}{d c:List β}(p:c.Perm d):∀{b:List α},Paired F b d->∃a,a.Perm b/\Paired F a c:=by
 induction p with
 | nil=>intro b h;exact{b,.refl _,h}
 | cons x _ e=>
   intro b h;cases h with
   | cons c d=>
     obtain⟨a,p',f⟩:=e d;exact{_,p'.cons _,.cons c f}
 | swap x y l=>
   intro b h;cases h with
   | cons c d=>cases d with
     | cons a e=>exact{_,List.Perm.swap ..,.cons a (.cons c e)}
 | trans _ _ a e=>
   intro b h;obtain⟨g,f,c⟩:=e h;obtain⟨b,g,d⟩:=a c;exact{b,g.trans f,d}
abbrev P2:=Int×Int
instance lxB(a b:P2):Bool:=decide (a.1<b.1\/a.1=b.1/\a.2<=b.2)
def Gi(a:P2):List P2->List P2
 | []=>[a]
 | b::l=>if lxB a b then a::b::l else b::Gi a l
def BV(l:List P2):List P2:=l.foldr Gi []
theorem hE(a:P2):∀l,(Gi a l).Perm (a::l)
 | []=>.refl _
 | b::l=>by
   unfold Gi;split
   ·exact .refl _
   ·exact((hE a l).cons b).trans (List.Perm.swap ..)
theorem eD:∀l,(BV l).Perm l
 | []=>.refl _
 | a::l=>(hE a (BV l)).trans ((eD l).cons a)
def s6(e:lxle a b)(d:lxle b c):lxle a c:=match e,d with
 | .inl p,.inl q=>.inl (Int.lt_trans p q)
 | .inl p,.inr q=>.inl (q.1▸p)
 | .inr p,.inl q=>.inl (p.1▸q)
 | .inr p,.inr q=>.inr {p.1.trans q.1,Int.le_trans p.2 q.2}
def s7(d:lxle a b)(c:lxle b a):a=b:=match d,c with
 | .inl p,.inl q=>absurd q (Int.lt_asymm p)
 | .inl p,.inr q=>absurd (q.1▸p) (Int.lt_irrefl _)
 | .inr p,.inl q=>absurd (p.1▸q) (Int.lt_irrefl _)
 | .inr p,.inr q=>Prod.ext p.1 (Int.le_antisymm p.2 q.2)
open H in
theorem lD(a:P2):∀l,l.Pairwise lxle->(Gi a l).Pairwise lxle
 | [],_=>Ha _ _
 | b::l,h=>by
   have d:=DH.mp h;unfold Gi;split
   ·rename_i q
    have q:lxle a b:=(of_decide_eq_true q:a.1<b.1\/a.1=b.1/\a.2<=b.2);refine DH.mpr {λx c=>?_,h};rcases AE.mp c with rfl | c
    ·exact q
    ·exact s6 q (d.1 x c)
   ·rename_i q
    have q:lxle b a:=by
     have:¬(a.1<b.1\/a.1=b.1/\a.2<=b.2):=λz=>q (aA z)
     exact match Int.lt_trichotomy b.1 a.1 with
      | .inl p=>.inl p
      | .inr (.inl e)=>.inr {e,Int.le_of_lt (Int.not_le.mp λz=>this (.inr ⟨e.symm,z⟩))}
      | .inr (.inr p)=>absurd (.inl p) this
    refine DH.mpr {λx c=>?_,lD a l d.2};rcases AE.mp ((hE a l).mem_iff.mp c) with rfl | c
    ·exact q
    ·exact d.1 x c
theorem hF:∀l,(BV l).Pairwise lxle
 | []=>List.Pairwise.nil
 | a::l=>lD a _ (hF l)
def s8(p:m.Perm l)(u:m.Pairwise lxle):m=BV l:=
 (p.trans (eD l).symm).eq_of_pairwise (λa b _ _ d c=>s7 d c) u (hF l)
abbrev PrV(H:Hp):List V->List P2->Prop:=Paired λv p=>∃b,v=.ref b/\H b=some (.tup [.int p.1,.int p.2])
section
variable{X:Cx}{S:Type}{W:Wd S}{c:Dx W}{g ga gb gc:Gr}{a b:Expr}{fa fb fc:Fn S}{pos p2:Pos}
abbrev Dp(p:P2):D:=.tup [.int p.1,.int p.2]
def CM:List D->Option (List P2)
 | []=>some []
 | .tup [.int x,.int y]::l=>(CM l).map λr=>(x,y)::r
 | _=>none
theorem hH:∀d:List P2,CM (d.map Dp)=some d
 | []=>rfl
 | p::d=>by rw[BI];unfold CM;rw[hH d];rfl
open H in
theorem hJ{K:FG}{A:Addr->Prop}{H:Hp}:∀{l:List D} {i:List V} {f:List P2},CM l=some f->aa K A H l i->PrV H i f
 | [],i,f,e,h=>by cases e;rw[aa.nil.mp h];exact .nil
 | d::l,i,f,e,h=>by
   obtain⟨v,r,j,f,n⟩:=aa.cons.mp h;unfold CM at e;split at e
   ·rename_i d;cases d
   ·rename_i x y m d
    cases d;cases q:CM l with
    | none=>rw[q] at e;cases e
    | some d=>
      rw[q] at e;cases e;obtain⟨b,d,s,l,r⟩:=Is.tup_iff.mp f;obtain⟨h,o,d,m,p⟩:=aa.cons.mp r;obtain⟨u,v,f,o,h⟩:=aa.cons.mp p;rw[Is.int_iff.mp m] at d;rw[Is.int_iff.mp o,aa.nil.mp h] at f;rw[j];refine .cons {b,s,?_} (hJ q n);rw[l,d,f]
   ·cases e
theorem hM{K:FG}{A:Addr->Prop}{H:Hp}:∀{e:List P2} {d:List V},PrV H d e->aa K A H (e.map Dp) d
 | _,_,.nil=>aa.nil.mpr rfl
 | _,_,.cons h t=>aa.cons.mpr {_,_,rfl,by
   obtain⟨b,e,f⟩:=h;rw[e];exact Is.tup f (aa.cons.mpr {_,_,rfl,Is.int_iff.mpr rfl,aa.cons.mpr {_,_,rfl,Is.int_iff.mpr rfl,aa.nil.mpr rfl}}),hM t}
theorem hO:∀d:List P2,D.immL (d.map Dp)=true
 | []=>rfl
 | n::ns=>hO ns
def HE:List D->Option D
 | [.lst l]=>(CM l).bind λps=>if ps.length<128 then some (.lst ((BV ps).map Dp)) else none
 | _=>none
open H in
def x7{K:FG}(e:c.K=K):Ck c (λu H Q=>∃(a:Addr) (i:List V) (f:List P2),u=[.ref a]/\AY K H a i/\PrV H i f/\f.length<128/\∀p h,H p=none->PrV H h (BV f)->Q (.ref p) (Ag H p (.lst h))) HE:=by
 subst e;intro l i H j d Q o z e q;delta HE at e;split at e
 ·rename_i m
  cases j:CM m with
  | none=>rw[j] at e;cases e
  | some f=>
    rw[j] at e;have e:(if f.length<128 then some (D.lst ((BV f).map Dp)) else none)=some d:=e;split at e
    ·rename_i d
     cases e;obtain⟨v,r,l,s,x⟩:=aa.cons.mp z;obtain⟨a,us,n,_,m,r⟩:=Is.lst_iff.mp s;rw[aa.nil.mp x,n] at l;exact{a,us,f,l,.of m,hJ j r,d,λp h f w=>q _ _ (Ah.laid f) (aL o f) (AB.lst o f (λ_ n=>n) (hO _) (hM (A:=λb=>¬W.mv b) w))}
    ·cases e
 ·cases e
end
end L2
namespace HT
open PySem PyProof PyProof.Rows
end HT
namespace L2
open PySem PySem.Spec PyProof PyProof.Rows
section
variable{X:Cx}{S:Type}{W:Wd S}{c:Dx W}{g ga gb gc:Gr}{a b:Expr}{fa fb fc:Fn S}{pos p2:Pos}
end
end L2
namespace HT
open PySem PyProof PyProof.Rows Ts
section
variable{prog:Program}{w:World}{A:Around}{R:Result->Shared->Prop}{I:Addr}{fp wr:List Addr}{n:Nat}{P:Nat->Value->Prop}{St:Nat->Heap->Prop}{base:Heap}{E:Value->Shared->Prop}{s:Shared}
def s9(a b:Int×Int):C7 [a.1,a.2] [b.1,b.2]=lx a b:=by
 delta lx;by_cases d:a.1<b.1
 ·simp[C7,d];omega
 ·by_cases c:a.1=b.1
  ·simp[C7,c];omega
  ·simp[C7,d,c]
def Bk.tup{h:Heap}{v:Value}{p:Int×Int}(z:Bk h v p):∃a b,v=.ref a/\IsTup h a b/\IntsAre b.toList [p.1,p.2]:=by
 obtain⟨a,o,n,t,u,rfl,g,c,d⟩:=z;exact{a,_,rfl,⟨o,g,c,n,d⟩,.cons _ _ (.cons _ _ .nil)}
def lt_two(d:A.units<cLine)(x:Bk s.heap u p)(y:Bk s.heap v q)(h:Q (.bool (lx p q)) s):wpAny 'r' A (richCompare .Lt u v) Q E s:=by
 obtain⟨a,b,rfl,e,c⟩:=Bk.tup x;obtain⟨b,f,rfl,tb,a⟩:=Bk.tup y;rw[<-s9] at h;exact oP e tb c a d h
end
end HT
namespace L2
open PySem PySem.Spec PyProof PyProof.Rows Ts
section
variable{X:Cx}{S:Type}{W:Wd S}{c:Dx W}{g ga gb gc:Gr}{a b:Expr}{fa fb fc:Fn S}{pos p2:Pos}
end
def g0{α:Type}{a:α}{l:List α}:(a::l)[0]?=some a:=rfl
def gS{α:Type}{a:α}{l:List α}{i:Nat}:(a::l)[i+1]?=l[i]?:=rfl
def s0{α:Type}{a b:α}{l:List α}:(a::l).set 0 b=b::l:=rfl
def sS{α:Type}{a b:α}{l:List α}{i:Nat}:(a::l).set (i+1) b=a::l.set i b:=rfl
def lC{α:Type}{a:α}{l:List α}:(a::l).length=l.length+1:=rfl
def lN{α:Type}:([]:List α).length=0:=rfl
def rl1_{α:Type}{i:Nat}:([]:List α)[i]?=none:=rfl
def rl2_{α β:Type}{f:α->β}{a:α}{l:List α}:(a::l).map f=f a::l.map f:=rfl
def rl3_{α β:Type}{f:α->β}:([]:List α).map f=[]:=rfl
def rl4_{α β:Type}{a:α}{f:α->Option β}:(some a).bind f=f a:=rfl
def rl5_{α:Type}{a:α}{o:Option α}:(some a).or o=some a:=rfl
def rl6_{α:Type}{o:Option α}:(none:Option α).or o=o:=rfl
def rl7_{α:Type}{a:α}:List.replicate 0 a=[]:=rfl
def rl8_{α:Type}{a:α}{n:Nat}:List.replicate (n+1) a=a::List.replicate n a:=rfl
def rl9_{α:Type}{a:α}{l m:List α}:(a::l)++m=a::(l++m):=rfl
def rl0_{α:Type}{l:List α}:[]++l=l:=rfl
def EV_:(type_of% @D.bl.injEq)/\(type_of% @D.int.injEq)/\(type_of% @D.str.injEq)/\(type_of% @Nat.zero_add)/\(type_of% @if_true.{1})/\(type_of% @if_false.{1})/\(type_of% @Bool.and_true)/\(type_of% @Bool.true_and)/\(type_of% @Bool.and_self)/\(type_of% @Bool.false_eq_true)/\(type_of% @Option.some.injEq.{0})/\(type_of% @exists_eq_left'.{1})/\(type_of% @exists_eq_left.{1})/\(type_of% @exists_eq_right.{1})/\(type_of% @true_or)/\(type_of% @or_true)/\(type_of% @true_and)/\(type_of% @and_true)/\(type_of% @Bool.not_true)/\(type_of% @Bool.not_false):=
 {@D.bl.injEq,@D.int.injEq,@D.str.injEq,@Nat.zero_add,@if_true.{1},@if_false.{1},@Bool.and_true,@Bool.true_and,@Bool.and_self,@Bool.false_eq_true,@Option.some.injEq.{0},@exists_eq_left'.{1},@exists_eq_left.{1},@exists_eq_right.{1},@true_or,@or_true,@true_and,@and_true,@Bool.not_true,@Bool.not_false}
section
variable{S:Type}
instance fP(S:Type)(p:Ae->Option D):Fn S:=λZ st=>Au (p Z) st
instance aP(S:Type)(q:Ae->Option (List D)):Ba S:=λZ st=>Au (q Z) st
instance tP(S:Type)(q:Ae->Option Bool):A9 S:=λZ st=>Au (q Z) st
instance vr(i:Nat):Ae->Option D:=λZ=>rd Z i
instance cn(d:D):Ae->Option D:=λ_=>some d
instance o2(o:D->D->Option D)(p q:Ae->Option D):Ae->Option D:=λZ=>(p Z).bind λa=>(q Z).bind λb=>o a b
instance nl:Ae->Option (List D):=λ_=>some []
instance cs(p:Ae->Option D)(q:Ae->Option (List D)):Ae->Option (List D):=λZ=>(p Z).bind λa=>(q Z).bind λl=>some (a::l)
instance o1(o:List D->Option D)(q:Ae->Option (List D)):Ae->Option D:=λZ=>(q Z).bind o
instance ti(T:Bt)(p:Ae->Option D):Ae->Option D:=λZ=>(p Z).bind λd=>some (.bl (BZ T d))
instance tb(p:Ae->Option D):Ae->Option Bool:=λZ=>(p Z).bind D.bool?
open H in
def lE{o:D->D->Option D}{p q:Ae->Option D}:f2 S o (fP S p) (fP S q)=fP S (o2 o p q):=by
 funext Z st;unfold f2 fP o2;cases p Z with
 | none=>rfl
 | some a=>cases q Z<;>rfl
open H in
def tf{p:Ae->Option D}{q:Ae->Option (List D)}:Cu S (fP S p) (aP S q)=aP S (cs p q):=by
 funext Z st;delta Cu fP aP cs;cases p Z with
 | none=>rfl
 | some a=>cases q Z<;>rfl
open H in
def tj{o:List D->Option D}{q:Ae->Option (List D)}:fA S o (aP S q)=fP S (o1 o q):=by
 funext Z st;delta fA fP aP o1;cases q Z<;>rfl
open H in
def tm{T:Bt}{p:Ae->Option D}:fIs S T (fP S p)=fP S (ti T p):=by
 funext Z st;delta fIs fP ti;cases p Z<;>rfl
open H in
def tq{p:Ae->Option D}:fB S (fP S p)=tP S (tb p):=by
 funext Z st;delta fB fP tP tb;cases p Z<;>rfl
def wp_fP{p:Ae->Option D}{Z:Ae}{a:S}{Q:D->S->Prop}{E:AG->S->Prop}:Aa (fP S p Z a) Q E↔Aa (Au (p Z) a) Q E:=Iff.rfl
def wp_aP{p:Ae->Option (List D)}{Z:Ae}{a:S}{Q:List D->S->Prop}{E:AG->S->Prop}:Aa (aP S p Z a) Q E↔Aa (Au (p Z) a) Q E:=Iff.rfl
def wp_tP{p:Ae->Option Bool}{Z:Ae}{a:S}{Q:Bool->S->Prop}{E:AG->S->Prop}:Aa (tP S p Z a) Q E↔Aa (Au (p Z) a) Q E:=Iff.rfl
def boS{α β:Type}{a:α}{f:α->Option β}:(some a).bind f=f a:=rfl
def dbb{b:Bool}:D.bool? (.bl b)=some b:=rfl
def ya{i j pos}:DE X c g (.Constant (.int i) j pos) (fP S (cn (.int i))):=pY
def yb{x j pos}:DE X c g (.Constant (.str x) j pos) (fP S (cn (.str x))):=qb
def yc{i j pos}:DE X c g (.Constant (.bool i) j pos) (fP S (cn (.bl i))):=pZ
def yd{j pos}:DE X c g (.Constant .none j pos) (fP S (cn .non)):=p9
def ye{i:Nat}{x:Str}{pos:Pos}(h:PE X (.Name x pos) (B1 i)):DE X c .R (.Name x pos) (fP S (vr i)):=qc h
def yf{x:Str}{i:Int}{pos:Pos}(d:∃t,X.mg x=some (.int i t))(b:Gl X x)(a:autoParam 'u' uD):DE X c g (.Name x pos) (fP S (cn (.int i))):=rP d b a
def yg:DA X c [] (aP S nl):=qd
def g2_(h:DE X c g e (f2 S o (fP S p) (fP S q))):DE X c g e (fP S (o2 o p q)):=lE▸h
def gA_(h:DE X c g e (fA S oA (aP S qa))):DE X c g e (fP S (o1 oA qa)):=tj▸h
def gI_(h:DE X c g e (fIs S T (fP S p))):DE X c g e (fP S (ti T p)):=tm▸h
def gC_(h:DA X c es (Cu S (fP S p) (aP S qa))):DA X c es (aP S (cs p qa)):=tf▸h
def gB_(h:DT X c e (fB S (fP S p))):DT X c e (tP S (tb p)):=tq▸h
def gT_{e:Expr}(h:DT X c e (fB S (f2 S o (fP S p) (fP S q)))):DT X c e (tP S (tb (o2 o p q))):=gB_ (lE▸h)
end
def tw{S:Type}{F G:Ay S}{Z:Ae}{c:S}{Q:Fl->S->Prop}{E:AG->S->Prop}(h:∀P:Fl->S->Prop,(∀b a,Aa (G b a) Q E->P (.nx b) a)->(∀d a,Q (.rt d) a->P (.rt d) a)->(∀r a,Q (.bk r) a->P (.bk r) a)->(∀r a,Q (.ct r) a->P (.ct r) a)->Aa (F Z c) P E):Aa (E7 S F G Z c) Q E:=
 ar.mpr (h _ (λ_ _ z=>z) (λ_ _ z=>z) (λ_ _ z=>z) (λ_ _ z=>z))
section
variable{X:Cx}{S:Type}{W:Wd S}{c:Dx W}{g:Gr}{e a b:Expr}{es:List Expr}{o:D->D->Option D}{p q:Ae->Option D}{qa:Ae->Option (List D)}{pos:Pos}{f fa fb:Fn S}{rr:Ba S}{ga gb gc:Gr}{fc:Fn S}{p2:Pos}{fk:Fn S}{Z:Ae}{st:S}{Q:D->S->Prop}{E:AG->S->Prop}{out:Str}{fs:List (Fn S)}
def yi{x:Str}(h:DE X c .R (.Name x pos) (fP S p))(d:DA X c es (aP S qa)):DA X c (.Name x pos::es) (aP S (cs p qa)):=gC_ (ba h d)
def yj{x:Str}(h:DE X c .R (.Name x pos) f)(d:DA X c es rr):DA X c (.Name x pos::es) (Cu S f rr):=ba h d
def yk{k:Const}{j}(h:DE X c .R (.Constant k j pos) (fP S p))(d:DA X c es (aP S qa)):DA X c (.Constant k j pos::es) (aP S (cs p qa)):=gC_ (ba h d)
def yl{k:Const}{j}(h:DE X c .R (.Constant k j pos) f)(d:DA X c es rr):DA X c (.Constant k j pos::es) (Cu S f rr):=ba h d
def ym{a b:Expr}(h:DE X c .R (.Subscript a b pos) (fP S p))(d:DA X c es (aP S qa)):DA X c (.Subscript a b pos::es) (aP S (cs p qa)):=gC_ (ba h d)
def yn{a b:Expr}(h:DE X c .R (.Subscript a b pos) f)(d:DA X c es rr):DA X c (.Subscript a b pos::es) (Cu S f rr):=ba h d
def yo{d:List Expr}{x1}(h:DE X c .R (.Tuple d x1 pos) (fP S p))(i:DA X c es (aP S qa)):DA X c (.Tuple d x1 pos::es) (aP S (cs p qa)):=gC_ (ba h i)
def yp{d:List Expr}{x1}(h:DE X c .R (.Tuple d x1 pos) f)(i:DA X c es rr):DA X c (.Tuple d x1 pos::es) (Cu S f rr):=ba h i
def yq{d:List Expr}(h:DE X c .R (.List d pos) (fP S p))(i:DA X c es (aP S qa)):DA X c (.List d pos::es) (aP S (cs p qa)):=gC_ (ba h i)
def yr{a:Expr}{i:List Expr}{d}(h:DE X c .R (.Call a i d pos) (fP S p))(j:DA X c es (aP S qa)):DA X c (.Call a i d pos::es) (aP S (cs p qa)):=gC_ (ba h j)
def yt{a:Expr}{i:List Expr}{d}(h:DE X c .R (.Call a i d pos) f)(j:DA X c es rr):DA X c (.Call a i d pos::es) (Cu S f rr):=ba h j
def yu{a b:Expr}{op}(h:DE X c .R (.BinOp a op b pos) (fP S p))(d:DA X c es (aP S qa)):DA X c (.BinOp a op b pos::es) (aP S (cs p qa)):=gC_ (ba h d)
def yv{a b:Expr}{op}(h:DE X c .R (.BinOp a op b pos) f)(d:DA X c es rr):DA X c (.BinOp a op b pos::es) (Cu S f rr):=ba h d
def yw{a:Expr}{op}(h:DE X c .R (.UnaryOp op a pos) f)(d:DA X c es rr):DA X c (.UnaryOp op a pos::es) (Cu S f rr):=ba h d
def yx{a:Expr}{gs scope}(h:DE X c .R (.ListComp a gs scope pos) f)(d:DA X c es rr):DA X c (.ListComp a gs scope pos::es) (Cu S f rr):=ba h d
def gU_{x1}(h:DA X c es (aP S qa)):DE X c g (.Tuple es x1 pos) (fP S (o1 B3 qa)):=gA_ (qg h)
def gL_(h:DA X c es (aP S qa)):DE X c g (.List es pos) (fP S (o1 DU qa)):=gA_ (qh h)
def gX_(h:c.K=X.K)(d:DE X c .R a (fP S p))(j:DE X c .R b (fP S q))(i:GD b):DE X c g (.Subscript a b pos) (fP S (o2 AR p q)):=g2_ (jC jg (jK h) d j i)
def gY_(h:c.K=X.K)(d:DE X c .R a fa)(j:DE X c .R b fb)(i:GD b):DE X c g (.Subscript a b pos) (f2 S AR fa fb):=jC jg (jK h) d j i
def gP_(h:c.K=X.K)(d:DE X c .R a (fP S p))(i:DE X c .R b (fP S q)):DE X c g (.BinOp a .Add b pos) (fP S (o2 BL p q)):=g2_ (jB kl (km h) d i)
def gp_(h:c.K=X.K)(d:DE X c .R a fa)(i:DE X c .R b fb):DE X c g (.BinOp a .Add b pos) (f2 S BL fa fb):=jB kl (km h) d i
end
open PySem PySem.Spec PyProof PyProof.Rows
section
variable{S:Type}{i j:Nat}{Z:Ae}{st:S}{Q:Fl->S->Prop}{E:AG->S->Prop}
end
def KU(tk tv:TE):TE:=λY H Q=>∀p,H p=none->GE [(tk,tv)] Y (Ag H p (.dT [])) λps H2=>∃ks b y,ps=[(.ref b,y)]/\C4 H2 b ks/\H2 p=some (.dT [])/\Q (.ref p) (Ag H2 p (.dT [(ks,y)]))
def tz(c:X.A.units+2<cLine)(b:PE X k tk)(d:PE X v tv):PE X (.Dict [some k] [v] pos) (KU tk tv):=by
 intro c s Y H Q I q;have e:=I.hok.fresh (Ap s.heap.objs.size);have I1:=I.laid (a:=s.heap.objs.size) (o:=.dT []) (h':=s.heap.push { cls:=.type "dict",data:=.dict #[] }) (t':=s.toks) (λ_ _ q=>AJ _ q) (Ap _) (gm s.heap I.big);refine wpAny_Dict_any rfl rfl 'd' (show (1:Nat)<=15 by decide) (ai (eT b d gn c _ Y _ _ I1 (q _ e)) λb c hI130=>?_);obtain⟨d,H2,I2,c,m,b,y,e,h,d,l⟩:=hI130;subst e;cases c with
 | @cons a0 g e j f i=>
   cases i;obtain⟨u,r⟩:=g;obtain⟨e,j⟩:=f;cases (show u=Value.ref b from e);obtain⟨z,p,g,c,f⟩:=gh I2.hok d;cases c;have e:storeAll s.heap.objs.size [(Value.ref b,r)]=(do dictSet s.heap.objs.size (.ref b) r;pure PUnit.unit):=by
    delta storeAll;simp only[List.forIn_cons,List.forIn_nil,bind_assoc,pure_bind]
   rw[e];refine Ac (wpAny_dictSet_heap (knd:=EN X.prog X.w) (show X.A.units+1<cLine by omega) (key_of I2.hok h) f λh' c i=>Ao {.ref s.heap.objs.size,_,?_,rfl,l});obtain⟨g,es,e,f,s,n,q,_,l⟩:=c;refine dI I2 (by rw[d];exact True.intro) i ⟨g,f⟩ {by show 1<=sizeLine;decide,p,[(m,b,r)],.cons {rfl,?_,j} .nil,g,es,e,f,s,n,q,l};exact h.keeps λc b e=>by rw[ah (ci e d (λz=>nomatch z))];exact e
section
variable{X:Cx}{S:Type}{W:Wd S}{c:Dx W}{g:Gr}
def JS(S:Type)(fk fv:Fn S):Fn S:=λZ st=>(fk Z st).bind λdk st1=>(fv Z st1).bind λdv st2=>match AN dk with
 | some kk=>if dv.imm=true then .ok (.dct [.non,AD kk] [dv]) st2 else .bad
 | none=>.bad
def yy(hu:X.A.units+2<cLine)(P:DE X c .R k fk)(hv:DE X c .R v fv):DE X c g (.Dict [some k] [v] pos) (JS S fk fv):=
 (tz hu P hv).imp λY H Q hI47=>by
  obtain⟨Z,T,R,z,w⟩:=hI47;intro p a;have B:¬W.mv p:=bH z a;refine{Z,T,R.ext z (Ah.laid a),aL z a,ak (ae.mp w) (λI n q x H1 m d z1=>?_) λx n q H1 m d=>q H1 ((Ah.laid a).trans m) d};refine{Z,n,(R.ext z (Ah.laid a)).ext (aL z a) m,d,ak (ae.mp q) (λE G q y H2 r i z2=>?_) λx G q H2 r i=>q H2 (((Ah.laid a).trans m).trans r) i};cases M:AN I with
  | none=>simp only[M] at q;exact q.elim
  | some l=>
    simp only[M] at q;by_cases im:E.imm=true
    ·rw[if_pos im] at q
     have zk:Is c.K 'w' H2 I x:=(show BJ c .R Y Z _ H1 I x from z1).ext r d;obtain⟨b,eb,C,_⟩:=dW M zk;have J:=m p _ (aw (H:=H) (o:=.dT [])) B;have j:H2 p=some (.dT []):=r p _ J B;have ex:Ah W H (Ag H2 p (.dT [(l,y)])):=λb o C O=>by
      have N:b≠p:=ay C a;rw[ah N];exact r b o (m b o (by rw[ah N];exact C) O) O
     have U:∀b o,H2 b=some o->C8 o->Ag H2 p (.dT [(l,y)]) b=some o:=λb o h s=>by
      by_cases e:b=p
      ·subst e;rw[j] at h;cases h;rcases s with⟨u,e⟩ | ⟨ob,u,e⟩<;>cases e
      ·rw[ah e];exact h
     have kt:Bg (λ_=>False) (λ_=>False) H2 (Ag H2 p (.dT [(l,y)])):={U,λ_ _ f=>False.elim f};have zy:Is c.K (λ_=>False) (Ag H2 p (.dT [(l,y)])) E y:=Is.mono kt (Is.ofImm im (show Is c.K 'w' H2 E y from z2));refine{l,b,y,by rw[eb],C,j,q _ _ ex (bY i B j) (AB.val R (Is.dct_iff.mpr {p,[y],rfl,⟨B,a⟩,aa.one (Is.ofImm im zy),.inr {[l],rfl,rfl,aw}}) g)}
    ·rw[if_neg im] at q;exact q.elim
def lF{a d:Fn S}{Z:Ae}{i:S}{Q:D->S->Prop}{E:AG->S->Prop}:Aa (JS S a d Z i) Q E↔Aa (a Z i) (λf e=>Aa (d Z e) (λb a=>∃d,AN f=some d/\b.imm=true/\Q (.dct [.non,AD d] [b]) a) E) E:=aJ λf e=>aJ λb a=>by
 cases e:AN f with
 | none=>exact{λh=>h.elim,λ⟨d,e,_⟩=>by cases e}
 | some d=>
   show Aa (if b.imm=true then Ar.ok (D.dct [.non,AD d] [b]) a else .bad) Q E↔_;by_cases im:b.imm=true
   ·rw[if_pos im];exact{λh=>⟨d,rfl,im,h⟩,λ⟨k',e,_,h⟩=>by cases e;exact h}
   ·rw[if_neg im];exact{λh=>h.elim,λ⟨k',e,h,_⟩=>absurd h im}
end
abbrev D8(es:Array DictEntry)(ep:Nat):Obj:={ cls:=.type "dict",dict:=none,data:=.dict es ep,slots:=#[] }
abbrev Fx(d:Addr)(i n ep:Nat):Obj:={ cls:=.type "dict_keyiterator",dict:=none,data:=.fields #[.ref d,.int i 0,.int n 0,.int ep 0],slots:=#[] }
def tE(a d:Addr)(i n b:Nat)(es:Array DictEntry)(e:DictEntry)(f:es.size=n)(c:es[i]?=some e) :
 Meets (Builtin.«dict_keyiterator.__next__» {[.ref a],[]}) (λ_ R s=>s.heap.get? a=some (Fx d i n b)/\s.heap.get? d=some (D8 es b)/\R (.ok (.ret e.key)) { s with heap:=s.heap.update a (Obj.mapFields λx=>x.setIfInBounds 1 (rawInt ((i:Int)+1))),toks:=s.toks }):=
 .of_wp λprog w A R s h=>by
  obtain⟨a,g,l,j,f⟩:=s;obtain⟨b,d,h⟩:=h;wp_walk;have a:(if ((i:Nat):Int)<0 then none else es[((i:Nat):Int).toNat]?)=some e:=by rw[if_neg 'o',Dc,c]
  simp only[a]
  wp_walk
  exact{_,rfl,h}
def tF(c d:Addr)(n b:Nat)(es:Array DictEntry)(a:es.size=n)(f:A.handled=none)(a:s.heap.get? c=some (Fx d n n b))(a:s.heap.get? d=some (D8 es b))(h:∀a d e,(∀b o,b≠c->s.heap.get? b=some o->d.get? b=some o)->(∃o,d.get? a=some o/\o.cls=.type "StopIteration")->E (.ref a) { s with heap:=d,toks:=e }) :
 wpAny 'r' A (Builtin.«dict_keyiterator.__next__» {[.ref c],[]}) R E s:=by
 obtain⟨a,g,d,e,c⟩:=s;wp_walk;have a:(if ((n:Nat):Int)<0 then none else es[((n:Nat):Int).toNat]?)=none:=by rw[if_neg 'o',Dc,Array.getElem?_eq_none 'o']
 simp only[a]
 wp_walk
 delta raiseNew;refine Ac (wpAny_handled ?_);rw[f];refine Ac (Ao (wpAny_throw (h _ _ _ (λb o a e=>?_) {_,Be _ rfl,rfl})));exact AJ _ (AJ _ ((Heap.get?_update_other _ _ (Ne.symm a)).trans e))
def tJ(d:Addr)(es:Array DictEntry)(a:Nat)(b:(d == sysModules)=false) :
 Meets (Builtin.«dict.__iter__» {[.ref d],[]}) (λ_ R s=>s.heap.get? d=some (D8 es a)/\R (.ok (.ret (.ref s.heap.objs.size))) { s with heap:=s.heap.push (Fx d 0 es.size a),toks:=s.toks }):=
 .of_wp λprog w A R s h=>by
  obtain⟨b,g,a,d,c⟩:=s;obtain⟨b,h⟩:=h;wp_walk;exact{_,rfl,h}
open H in
def tK{i n a:Nat}(m:es.size=n)(j:es[i]?=some e)(c:s.heap.get? it=some (Fx d i n a))(l:s.heap.get? d=some (D8 es a))(h:∀f g,f.get? it=some (Fx d (i+1) n a)->(∀b o,b≠it->s.heap.get? b=some o->f.get? b=some o)->Q (some e.key) { s with heap:=f,toks:=g }):wpAny 'r' A (pyNext (.ref it)) Q E s:=by
 have g:s.TypeIs (.ref it) "dict_keyiterator":={_,c,rfl};have f:=Heap.get?_update_self (Obj.mapFields λx=>x.setIfInBounds 1 (rawInt ((i:Int)+1))) c rfl;delta pyNext;exact Ac (wpAny_attempt (wpAny_callSpecial?_slot (name:=Str.ofString "__next__") g F.slot_dict_keyiterator_next (call_meets F.slot_dict_keyiterator_next g F.entry_dict_keyiterator_next (F.args_dict_keyiterator_next_1 _) (tE it d i n a es e m j)
  {c,l,Ao (h _ _ f λb o a g=>(Heap.get?_update_other _ _ (Ne.symm a)).trans g)})))
open H in
def tL{n a:Nat}(l:A.handled=none)(j:es.size=n)(e:s.heap.get? it=some (Fx d n n a))(i:s.heap.get? d=some (D8 es a))(h:∀c g,(∀b o,b≠it->s.heap.get? b=some o->c.get? b=some o)->Q none { s with heap:=c,toks:=g }):wpAny 'r' A (pyNext (.ref it)) Q E s:=by
 have f:s.TypeIs (.ref it) "dict_keyiterator":={_,e,rfl};delta pyNext;refine Ac (wpAny_attempt (wpAny_callSpecial?_slot (name:=Str.ofString "__next__") f F.slot_dict_keyiterator_next (DX F.slot_dict_keyiterator_next f F.entry_dict_keyiterator_next (tF it d n a es j (A:=A.in1) l e i λa c g d f=>?_) (F.args_dict_keyiterator_next_1 _))));exact Ac (wpAny_isInstance (T:="StopIteration") (b:=true) f isSubtype_stop (Ao (h _ _ d)))
def tM{a:Nat}(e:(d == sysModules)=false)(b:s.heap.get? d=some (D8 es a))(h:Q (.ref s.heap.objs.size) { s with heap:=s.heap.push (Fx d 0 es.size a) }):wpAny 'r' A (pyIter (.ref d)) Q E s:=by
 have c:s.TypeIs (.ref d) "dict":={_,b,rfl};exact wpAny_pyIter_slot c F.slot_dict_iter (call_meets F.slot_dict_iter c F.entry_dict_iter (F.args_dict_iter_1 _) (tJ d es a e) {b,"dict_keyiterator",_,{_,Be _ rfl,rfl},F.slot_dict_keyiterator_next.lookup,h})
def tO(m:A.handled=none)(a d:Addr)(j:d≠a)(es:Array DictEntry)(c:Nat) :
 Walks prog w A a [a,d] [a] es.size (λi v=>∃e,es[i]?=some e/\v=e.key) (λi h=>h.get? a=some (Fx d i es.size c)/\h.get? d=some (D8 es c)) where
 sub:=λb g=>by simp at g;simp[g]
 frame:=λ_ _ _ f c=>{c a 'd' _ f.1,c d 'd' _ f.2}
 item:=λi s Q E c f g=>tK rfl (Fe c) f.1 f.2 λl h a b=>g _ l h {_,Fe c,rfl} {a,b d _ j f.2} λc o a e=>b c o (λz=>a (by simp[z])) e
 done:=λs Q E f g=>tL m rfl f.1 f.2 λl h b=>g l h λc o a e=>b c o (λz=>a (by simp[z])) e
 self:=λi s Q E f g=>wpAny_pyIter_keyiter {_,f.1,rfl,rfl} g
def tQ(f:(d == sysModules)=false)(es:Array DictEntry)(c:Nat):PySem.W.KdlSrc prog w "dict" d d es.size (λi v=>∃e,es[i]?=some e/\v=e.key) (λh=>h.get? d=some (D8 es c)) where
 type:=λ_ a=>{_,a,rfl}
 there:=λ_ a=>{Heap.lt_size a,Heap.lt_size a}
 keep:=λ_ _ a b=>b d (.inl rfl) _ a
 notList:=by decide
 notTuple:=by decide
 hint:=λ_ _ _ _ a b=>PySem.W.kdl_hint_dict {_,a,rfl} b
 iter:=λ_ _ e a=>{_,_,(λ_ _ b=>tM f a b),tO e _ d (Br (Heap.lt_size a)) es c,{Be _ rfl,AJ _ a}}
def tR{n:Nat}(o1:h.get? a=some (seqObj "list" b.toArray n)):∃m,(sortedHeap h a b out).get? a=some (seqObj "list" out m):=by
 have c:a<h.objs.size:=Heap.lt_size o1;have o2:=get?_update_seq o1 (λ_=>(#[]:Array Value));delta sortedHeap;have c:(((h.update a (Obj.mapSeq λ_=>#[])).push (seqObj "tuple" b.toArray 0)).push (seqObj "list" #[] 0)).get? a=_:=AJ _ (AJ _ o2);exact{_,get?_update_seq c (λ_=>out)}
def tT(c:b≠a)(g:h.get? b=some o):(sortedHeap h a d out).get? b=some o:=by
 delta sortedHeap;rw[Heap.get?_update_ne _ _ _ _ c];exact AJ _ (AJ _ (by rw[Heap.get?_update_ne _ _ _ _ c];exact g))
section
variable{X:Cx}{S:Type}{W:Wd S}{c:Dx W}{A5:List 'p'}{Y:St}{H:Hp}{s:Shared}{h':Heap}{k:Nat}{x:Str}{prog:Program}{w:World}{A:Around}{E:Value->Shared->Prop}{h:Heap}{g:Array GenState}{d:Drawn}{t:Nat}{os:OsState}{a C:Addr}{o:Obj}{K:FG}{n:Str}{P:Program}{mg:Str->Option Value}{base:Heap}{p:Addr×Obj}
end
open PySem.SeqAt
section
variable{S:Type}{prog:Program}{w:World}{A:Around}{E:Value->Shared->Prop}{h:Heap}{g:Array GenState}{d:Drawn}{t:Nat}{os:OsState}{nm q:Str}{C N f:Addr}{bs bm bmB:List Value}{hd:Bool}{sn:List Str}{sub:List Value}{ab:Bool}{col:Option Bool}{dd:Option Addr}{k0 k1 k2 k3 k5:Option Value}{B newId initId:String}{a dx:Addr}{o:Obj}{K:FG}{X:Cx}{A5:List 'p'}{Y:St}{H H':Hp}{s:Shared}{e:Addr}{h':Heap}
end
section
variable{B nm q:Str}{hd ab:Bool}{X:Cx}{A5:List 'p'}{Y:St}{H:Hp}{s:Shared}{e C dx:Addr}{o:Obj}{i j:Nat}{x y name:Str}{v:V}{N:Addr}{bs bm:List Value}{sn:List Str}{sub:List Value}{col:Option Bool}{dd:Option Addr}{k0 k1 k2 k3 k5:Option Value}{id1:String}
end
section
variable{M:Model}{A:Around}{E:Value->Shared->Prop}{s:Shared}{x T Lv0:Addr}{C v c fl:Value}{od:Option Addr}{env:Env}{outer:List Env}{base:Heap}{Q:Unit->Shared->Prop}
end
section
variable{k:Nat}{x n:Str}{S:Type}{P:Program}{w:World}{K:FG}{mg:Str->Option Value}{base:Heap}{C C0 f:Addr}{st:Stmt}{fd:FuncData}{nm q qual:Str}{M:Addr}{bs bm:List Value}{sn:List Str}{sub:List Value}{ab:Bool}{col:Option Bool}{dd:Option Addr}{k0 k1 k2 k3 k5:Option Value}{x1 x2:Str}{j1 j2:Nat}{pB pA pc pe p1 p2 p3 p4 p5 p6 p7 p8 q1 q2 q3 q4 r1 r2 r3 r4:Pos}
end
section
variable{X:Cx}{S:Type}{W:Wd S}{c:Dx W}{g:Gr}{k:Nat}{x:Str}{ps:List Str}{p pos:Pos}{e:Expr}{es:List Expr}{E:XK}{C:Addr}{G:List D->Ar Unit D}{f:Ba S}{nm q:Str}{hd ab:Bool}{newId:String}
end
section
variable{M:Model}{A:Around}{E:Value->Shared->Prop}{s:Shared}{x T Lv0:Addr}{C v c fl:Value}{od:Option Addr}{env:Env}{Q:Unit->Shared->Prop}{X:Cx}{A5:List 'p'}{Y:St}{H:Hp}{k:Nat}
end
section
variable{X:Cx}{S:Type}{W:Wd S}{c:Dx W}{k:Nat}{x:Str}{ps:List Str}{e:Expr}{es:List Expr}{E:XK}{C:Addr}{G:List D->Ar Unit D}{f:Ba S}
end
section
variable{X:Cx}{S:Type}{W:Wd S}{c:Dx W}{i:Nat}
section
variable{Z:Ae}{st:S}{Q:Fl->S->Prop}{E:AG->S->Prop}
end
end
section
variable{X:Cx}{S:Type}{W:Wd S}{c:Dx W}{i j:Nat}
section
variable{Z:Ae}{st:S}{Q:Fl->S->Prop}{E:AG->S->Prop}
end
end
section
variable{S:Type}{name:Str}{id:String}{X:Cx}{W:Wd S}{c:Dx W}{g:Gr}
end
section
variable{prog:Program}{w:World}{A:Around}{E:Value->Shared->Prop}{s:Shared}{K:Type}[DecidableEq K]{knd:HeapKind prog w K}{d a:Addr}{xs:List (K×Addr×Value)}{k:K}{j:Nat}{p:Addr×Value}
end
theorem KT.at{H:Hp}{a:List (List Al×V)}{c:List (List Al×Addr×Value)}(r:KT H a c):∀{j:Nat} {k:List Al} {y:V},a[j]?=some (k,y)->∃p,c[j]?=some (k,p)/\Am y p.2:=by
 induction r with
 | nil=>intro j k y e;cases e
 | @cons p q f g b t d=>
   intro j k y e;cases j with
   | zero=>cases e;exact{q.2,by rw[List.getElem?_cons_zero];exact congrArg some (Prod.ext b.1.symm rfl),b.2.2}
   | succ j=>exact d e
section
variable{X:Cx}{S:Type}{W:Wd S}{c:Dx W}{g:Gr}{fk:Fn S}{i:Nat}
end
def tU{b:Nat}(a:(d == sysModules)=false)(g:s.heap.get? d=some (D8 es b))(h:R (.int es.size s.toks) { s with toks:=s.toks+1 }):wpAny 'r' A (call (.builtin "dict.__len__") [.ref d]) R E s:=by
 refine DX F.slot_dict_len {_,g,rfl} F.entry_dict_len ?_ (F.args_dict_len_1 _);show wpAny _ _ (PySem.dictSize d >>= _) _ _ s;delta PySem.dictSize;refine Ac (Ac (wpAny_dictEntries g rfl (Ao ?_)));refine Ac (wpAny_pendingCount_other a (wpAny_ret_mkInt ?_));show R (.int ((es.size:Int)+((0:Nat):Int)) s.toks) _;rw[show (es.size:Int)+((0:Nat):Int)=es.size by omega];exact h
def tV{b:Nat}(a:(d == sysModules)=false)(g:s.heap.get? d=some (D8 es b))(c:es.size<=sizeLine)(h:Q (.int es.size (s.toks+1)) { s with toks:=s.toks+1+1 }):wpAny 'r' A (call (.builtin "len") [.ref d]) Q E s:=by
 have b:sizeLine=16777216:=sizeLine_eq;refine Calls.call_function_entry kind_len plain_len entry_len (args_len1 _) ?_;delta Builtin.«len»;refine Ac (m:=oneArg "len" _) (Ao (Ac (wpAny_callSpecial?_slot (name:=Str.ofString "__len__") {_,g,rfl} F.slot_dict_len (tU a g ?_))));refine Ac (wpAny_holding (Ao (Ac (wpAny_letGo ?_))));have b:¬((es.size:Int)<0):=by omega
 have a:¬((es.size:Int)>=2 ^ 63):=by omega
 dsimp only;rw[if_neg b,if_neg a];exact Ac (wpAny_mkInt (Ao {_,rfl,h}))
section
variable{S:Type}
def tW:Ch X (.builtin "len") (λe H Q=>∃(a:Addr) (b:List (List Al×V)),e=[.ref a]/\H a=some (.dT b)/\b.length<=1000/\Q (.int b.length) H):=by
 intro c s Y H e us Q I r h;obtain⟨a,b,rfl,f,d,q⟩:=h;obtain⟨u,rfl,c⟩:=br r;cases c;obtain⟨z,l,e,d,o,es,h,g,m,c,j,i⟩:=(show Bv X.prog X.w H s.heap a (.dT b) from I.hok a _ f);have i:o=D8 es h:=by
  obtain⟨a,r,p,n⟩:=o;obtain⟨f,a,h⟩:=m;simp only at f a h c;subst f a h c;rfl
 subst i;have a:es.size=b.length:=by
  rw[<-Ee,j,Ai];exact(Paired.length d).symm
 have c:sizeLine=16777216:=sizeLine_eq;exact tV l g 'o' {.int b.length,H,I.tok _,{_,by rw[a]},q}
def GR:List D->Option D
 | [.dct (.non::ks) _]=>if ks.length<=1000 then some (.int ks.length) else none
 | _=>none
def Ab.froze(I:Ab X h Y H s)(a:H p=some u)(d:Mut (some u))(g:∃o,s.heap.get? p=some o):∃o,Ab X h Y (Ag H p (.frz o u)) s:=by
 obtain⟨o,f⟩:=g;have c:∀b v,H b=some v->¬Mut (some v)->b≠p:=λb v e n z=>by subst z;rw[a] at e;cases e;exact n d
 exact{o,I.write (x:=p) (e:=p) (o:=.frz o u) (h':=s.heap) (t':=s.toks) (by rw[a];exact d) (.inl rfl) (λ_ _ _ e=>e) ⟨o,f⟩
  {f,(I.hok p u a).stay (λ_ _ _ e=>e) (λb e=>by rw[ah (c b _ e λz=>z)];exact e) λb a e=>by rw[ah (c b _ e λz=>z)];exact e}}
instance tFz(t:TE):TE:=λY H Q=>t Y H λv H'=>∃p u,v=.ref p/\H' p=some u/\((∃l,u=.lst l)\/∃l,u=.dT l)/\∀o,Q v (Ag H' p (.frz o u))
def tX(h:PE X e t):PE X e (tFz t):=λa s Y H Q I q=>ai (h a s Y H _ I q) λv f hI48=>by
 obtain⟨x,H1,I1,g,p,u,h,a,d,c⟩:=hI48;have b:Mut (some u)/\∃o,f.heap.get? p=some o:=by
  have z:=I1.hok p u a;rcases d with⟨l,rfl⟩ | ⟨l,rfl⟩
  ·obtain⟨_,d,n,_,e⟩:=z;exact{trivial,_,e}
  ·obtain⟨_,_,_,_,o,_,_,e,_⟩:=z;exact{trivial,_,e}
 obtain⟨o,I2⟩:=I1.froze a b.1 b.2;exact{x,_,I2,g,c o}
def DM:D->Option D
 | .lst l=>if D.immL l=true then some (.fl l) else none
 | .dct (.non::ks) l=>if D.immL l=true then some (.fd ks l) else none
 | _=>none
instance fFz(S:Type)(f:Fn S):Fn S:=λZ st=>(f Z st).bind λd st1=>Au (DM d) st1
def hQ{Z:Ae}{b:S}{Q:D->S->Prop}{E:AG->S->Prop}:Aa (fFz S f Z b) Q E↔Aa (f Z b) (λd a=>Aa (Au (DM d) a) Q E) E:=ae
def fy{a:Addr->Prop}{H1:Hp}{p:Addr}{u o:HO}(c:H1 p=some u)(d:¬C8 u):Bg (λ_=>False) a H1 (Ag H1 p o):=
 {λb v a e=>by rw[ah (λz=>by subst z;rw[c] at a;cases a;exact d e)];exact a,λ_ _ h=>h.elim}
open H in
def yz(h:DE X c .F e f):DE X c g e (fFz S f):=(tX h).imp λY H Q hI49=>by
 obtain⟨Z,a,R,b,w⟩:=hI49;refine{Z,a,R,b,ak (ae.mp w) (λd a q v H1 j l z=>?_) λx a q=>q};obtain⟨d',f,q⟩:=au.mp q;have fin:∀(a:Addr) (u o:HO),H1 a=some u->¬C8 u->v=.ref a->Av c Y Z a->H a=none->d'.mut=false->(∀p,Is c.K p (Ag H1 a o) d' v)->Q v (Ag H1 a o):=λa u o d ns c h s m i=>by
  refine q v _ (λb o' r n=>?_) (bY l h.1 d ns) ?_
  ·rw[ah (ay r s)];exact j b o' r n
  ·cases g with
   | R=>exact i _
   | B=>exact i _
   | F=>exact{i _,λ_ _ z=>by rw[m] at z;cases z}
 delta DM at f;split at f
 ·rename_i l
  split at f
  ·rename_i im
   cases f;obtain⟨a,b,c,h,d,i⟩:=Is.lst_iff.mp z.1;have ns:¬C8 (.lst b):=λz=>by rcases z with⟨_,e⟩ | ⟨_,_,e⟩<;>cases e
   exact{a,_,c,d,.inl {_,rfl},λo=>fin a (.lst b) _ d ns c h (z.2 a c rfl) rfl λp=>Is.fl_iff.mpr {a,o,b,c,aw,(aa.ofImm im i).mono (fy d ns)}}
  ·cases f
 ·rename_i g l
  split at f
  ·rename_i im
   cases f;obtain⟨a,b,c,h,i,g⟩:=Is.dct_iff.mp z.1;rcases g with⟨l,j,_,_⟩ | ⟨g,m,n,d⟩
   ·cases l with
    | nil=>cases j
    | cons z r=>
      have:D.non=Ct z:=(List.cons.inj j).1;cases z<;>cases this
   ·have ns:¬C8 (.dT (g.zip b)):=λz=>by rcases z with⟨_,e⟩ | ⟨_,_,e⟩<;>cases e
    exact{a,_,c,d,.inr {_,rfl},λo=>fin a (.dT (g.zip b)) _ d ns c h (z.2 a c rfl) rfl λp=>Is.fd_iff.mpr {a,o,b,g,c,(List.cons.inj m).2,n,aw,(aa.ofImm im i).mono (fy d ns)}}
  ·cases f
 ·cases f
def Is.flSq{K:FG}{A:Addr->Prop}{H:Hp}{l:List D}{v:V}(h:Is K A H (.fl l) v):∃a b,v=.ref a/\AY K H a b/\aa K A H l b:=by
 obtain⟨a,o,b,e,s,i⟩:=Is.fl_iff.mp h;exact{a,b,e,.inl (.inr ⟨o,s⟩),i}
def IH:D->D->Option D
 | .fl l,.int i=>im (BG l i)
 | _,_=>none
open H in
def yA{K:FG}(f:c.K=K):Bx c (rIx K) IH:=by
 intro g e c b H a d Q j g c e q;delta IH at e;split at e
 ·rename_i l i
  obtain⟨a,h,b,s,z⟩:=Is.flSq g;obtain⟨e,m⟩:=eY e;obtain⟨v,d,g⟩:=gt z e;exact .inl {a,h,i,v,b,Is.int_iff.mp c,f▸s,d,q v H Ah.refl j (AB.imm m g)}
 ·cases e
def II:List D->Option D
 | [.fl l]=>some (.int l.length)
 | _=>none
open H in
def yB{K:FG}(a:c.K=K):Ck c (λj H Q=>∃p b,j=[.ref p]/\(AY K H p b\/AS K H p b)/\Q (.int b.length) H) II:=by
 subst a;intro l f H c d Q n z e q;delta II at e;split at e
 ·rename_i m
  cases e;obtain⟨v,r,c,i,f⟩:=aa.cons.mp z;obtain⟨a,us,d,h,g⟩:=Is.flSq i;rw[aa.nil.mp f,d] at c;exact{a,us,c,.inl h,by rw[<-g.length];exact q _ H Ah.refl n bP}
 ·cases e
instance D.fl?:D->Option (List D)
 | .fl l=>some l
 | _=>none
def yC(a:c.K=X.K)(h:DE X c .B e f):DI X c tg e (Er S D.fl? f):=
 (iT h).imp λY H R hI50=>by
  obtain⟨Z,b,a,f,w⟩:=hI50;refine{Z,b,a,f,ak (ae.mp w) (λd a q v H1 e f z=>?_) λx a q=>q};obtain⟨l,g,q⟩:=au.mp q;cases d with
  | fl m=>
    cases g;obtain⟨a,o,b,h,s,i⟩:=Is.fl_iff.mp z;refine{a,h,{b,.inl (.inr ⟨o,s⟩)},q _ H1 e f ?_};intro h j m n H2 f k R2 p j;have e:AY X.K H2 a b:=.inl (.inr {o,k.frz a o _ s});have f:aa c.K (Av h m n) H2 l b:=i.mono k;refine{λd h=>?_,λa=>{b,e,by rw[<-f.length];exact a}};obtain⟨d,c,i⟩:=f.get h;exact{⟨b,d,e,c⟩,λx H3 hI51=>by
     obtain⟨d,y⟩:=hI51;subst d;have a:=y b e;rw[c] at a;cases a;exact{Ci.refl _,i}}
  | _=>cases g
end
section
variable{S:Type}{i:Nat}
def Ax.fz(R:Ax c H Y Z)(x:Z[i]?=some (.own d))(p:Y[i]?=some (some (.ref a)))(J:H a=some u)(ns:¬C8 u)(h:∀U,Is c.K U (Ag H a (.frz o u)) d' (.ref a)):Ax c (Ag H a (.frz o u)) Y (Z.set i (.bor d'))/\Bj c H Y Z (Ag H a (.frz o u)) Y (Z.set i (.bor d')):=by
 have O:i<Z.length:=(AQ.mp x).1;have G:Ow Y Z a:=⟨i,d,x,p⟩;obtain⟨nm,W,o1,ho,n1,n2⟩:=R.owOk G;have r:∀b,Ow Y (Z.set i (.bor d')) b->Ow Y Z b/\b≠a:=λb hI52=>by
  obtain⟨j,e,B,A⟩:=hI52;rcases aH B with⟨_,z⟩ | ⟨C,z⟩
  ·cases z
  ·refine{⟨j,e,z,A⟩,λq=>?_}
   subst q;exact C (R.uniq j i b e d z x A p)
 have k:Bg (Av c Y Z) (Av c Y (Z.set i (.bor d'))) H (Ag H a (.frz o u)):=bG (λb v e t=>by
  have l:b≠a:=λz=>by subst z;rw[J] at e;cases e;exact ns t
  rw[ah l];exact e) λb v y e=>{{y.1,λw=>y.2.1 (r b w).1,y.2.2},by rw[ah (λ(z:b=a)=>y.2.1 (z▸G))];exact e}
 refine{{by rw[EF];exact R.len,λb v e n=>?_,λj s T=>?_,λb l=>?_,λj M b e e' B A N h4=>?_},{λb v e n w=>?_,λb v e n w=>(r b w).1}}
 ·have l:b≠a:=λz=>by subst z;rw[show c.H0 b=none from W] at e;cases e
  rw[ah l];exact R.frame b v e n
 ·rcases aH T with⟨m,z⟩ | ⟨C,z⟩
  ·subst z m
   exact{.ref a,by rw[p];rfl,h _}
  ·have q:=R.slot j s z
   cases s with
   | no=>trivial
   | bor e=>obtain⟨v',g,P⟩:=q;exact{v',g,P.mono k}
   | own e=>
     obtain⟨b,g,n,f,t⟩:=q;have l:b≠a:=λz'=>by
      subst z';exact C (R.uniq j i b e d z x (bb g) p)
     exact{b,g,n,f,t.mono k λv z=>by rw[ah l];exact z}
   | hnd=>exact q
 ·obtain⟨n,z,v,h',q⟩:=R.avl b l
  have E:b≠a:=λz'=>by
   subst z';obtain⟨Q,g,I,_⟩:=R.slot i _ x;rw[p] at g;have g:some (V.ref b)=some (V.ref Q):=g;cases g;exact I.2 l
  exact{n,z,v,by rw[ah E];exact h',q}
 ·rcases aH B with⟨_,z⟩ | ⟨_,z⟩
  ·cases z
  ·rcases aH A with⟨_,z'⟩ | ⟨_,z'⟩
   ·cases z'
   ·exact R.uniq j M b e e' z z' N h4
 ·rw[ah (λ(z:b=a)=>w (z▸G))];exact e
instance fzS(Z:Ae)(i:Nat):Option Ae:=match Z[i]? with
 | some (.own d)=>(DM d).map λd'=>Z.set i (.bor d')
 | _=>none
instance sFz(S:Type)(i:Nat)(F:Ay S):Ay S:=λZ st=>(Au (fzS Z i) st).bind F
open H in
def yD(i:Nat)(h:DS X c s F):DS X c s (sFz S i F):=λm s Y H D I hI53=>by
 obtain⟨Z,q,R,x,w⟩:=hI53;obtain⟨a,e,w⟩:=au.mp (ae.mp w);delta fzS at e;cases g:Z[i]? with
 | none=>rw[g] at e;cases e
 | some b=>
   rw[g] at e;cases b with
   | own d=>
     have e:(DM d).map (λd'=>Z.set i (.bor d'))=some a:=e;cases b:DM d with
     | none=>rw[b] at e;cases e
     | some d'=>
       rw[b] at e;cases e;obtain⟨a,f,n,d,t⟩:=R.slot i _ g;have p:∀(u:HO),H a=some u->((∃l,u=.lst l)\/∃l,u=.dT l)->(∀(o:Obj) j,Is c.K j (Ag H a (.frz o u)) d' (.ref a))->wpAny 'e' X.A (exec _ X.env) (SP X m D) X.xe s:=λu c k v=>by
        have ns:¬C8 u:=λz=>by rcases k with⟨l,rfl⟩ | ⟨l,rfl⟩<;>rcases z with⟨_,e⟩ | ⟨_,_,e⟩<;>cases e
        have d:Mut (some u)/\∃o,s.heap.get? a=some o:=by
         have z:=I.hok a u c;rcases k with⟨l,rfl⟩ | ⟨l,rfl⟩
         ·obtain⟨_,r,n,_,e⟩:=z;exact{trivial,_,e}
         ·obtain⟨_,_,_,_,o,_,_,e,_⟩:=z;exact{trivial,_,e}
        obtain⟨o,I2⟩:=I.froze c d.1 d.2;obtain⟨u,r⟩:=R.fz (o:=o) g (bb f) c ns (v o);exact h m s Y _ D I2 {_,q,u,bY x n.1 c ns,ak w (λg d q=>q.from r) λ_ _ q=>q}
       delta DM at b;split at b
       ·rename_i l
        split at b
        ·rename_i im
         cases b;obtain⟨c,d,g⟩:=t;have ns:¬C8 (.lst c):=λz=>by rcases z with⟨_,e⟩ | ⟨_,_,e⟩<;>cases e
         exact p _ d (.inl {_,rfl}) λo j=>Is.fl_iff.mpr {a,o,c,rfl,aw,(aa.ofImm im g).mono (fy d ns)}
        ·cases b
       ·rename_i h l
        split at b
        ·rename_i im
         cases b;obtain⟨c,g,h⟩:=t;rcases h with⟨m,f,_,_⟩ | ⟨h,l,n,d⟩
         ·cases m with
          | nil=>cases f
          | cons z r=>
            have:L2.D.non=Ct z:=(List.cons.inj f).1;cases z<;>cases this
         ·have ns:¬C8 (.dT (h.zip c)):=λz=>by rcases z with⟨_,e⟩ | ⟨_,_,e⟩<;>cases e
          exact p _ d (.inr {_,rfl}) λo j=>Is.fd_iff.mpr {a,o,c,h,rfl,(List.cons.inj l).2,n,aw,(aa.ofImm im g).mono (fy d ns)}
        ·cases b
       ·cases b
   | _=>cases e
def fD{F:Ay S}{Z:Ae}{a:S}{Q:Fl->S->Prop}{E:AG->S->Prop}:Aa (sFz S i F Z a) Q E↔∃b,fzS Z i=some b/\Aa (F b a) Q E:=by
 delta sFz;rw[ae,au]
end
def C2(K:FG)(a:Addr):Wd D where
 ok:=λd H=>d.flat=true/\Top K (λ_=>False) H d a
 mv:=λb=>b=a
 h:=.ref a
 stay:=λd H H' ⟨m,t⟩ k s=>{m,Top.mono (c:=D0 K H) {s,λ_ _ f=>f.elim} (λo e=>k a o rfl e) t}
 live:=λd H b ⟨_,t⟩ e=>by subst e;exact Top.there (c:=D0 K H) t
def lG{K:FG}{A:Addr->Prop}{H:Hp}{c d:List D}{a:Addr}(t:Top K A H (.dct (.non::c) d) a):∃(b:List (List Al)) (us:List V),c=b.map AD/\b.length=us.length/\H a=some (.dT (b.zip us))/\aa K A H d us:=by
 obtain⟨us,i,b⟩:=t;rcases b with⟨g,a,_,_⟩ | ⟨e,h,b,f⟩
 ·cases g with
  | nil=>cases a
  | cons y r=>
    have:D.non=Ct y:=(List.cons.inj a).1;cases y<;>cases this
 ·exact{e,us,(List.cons.inj h).2,b,f,i}
section
variable{X:Cx}{K:FG}{a0:Addr}{c:Dx (C2 K a0)}{g ga gb:Gr}{i:Nat}{k value:Expr}{fk fv:Fn D}{pos:Pos}
def hU(R:Ax c H Y Z)(h:Z[i]?=some .hnd):Y[i]?=some (some (.ref a0)):=bb (show (Y[i]?).join=some (V.ref a0) from R.slot i _ h)
instance hnd?(Z:Ae)(i:Nat):Bool:=match Z[i]? with
 | some .hnd=>true
 | _=>false
def fE(h:hnd? Z i=true):Z[i]?=some .hnd:=by
 delta hnd? at h;split at h
 ·assumption
 ·cases h
open H in
def tY{a:Bool}{j l d:D}(h:Dy a j l=some d):∃e f b,l=.dct (.non::e) f/\AN j=some b/\d=.bl (if a then !(AC b e f).isSome else (AC b e f).isSome):=by
 delta Dy at h;split at h
 ·rename_i e f
  cases a:AN j with
  | none=>rw[a] at h;cases h
  | some b=>rw[a] at h;cases h;exact⟨e,f,b,rfl,rfl,rfl⟩
 ·cases h
def Gj(neg:Bool)(i:Nat)(fk:Fn D):Fn D:=λZ st=>if hnd? Z i=true then (fk Z st).bind λdk st1=>Au (Dy neg dk st1) st1 else .bad
def tZ(r:c.K=K){Y:St}{H:Hp}{Q:VK}{b:Bool}(h:tD c g (Gj b i fk) Y H Q):tD c .R fk Y H λy H1=>B1 i Y H1 λx H2=>∃a o,x=.ref a/\BS H2 a y o/\Q (.bl (if b then !o.isSome else o.isSome)) H2:=by
 obtain⟨Z,b,R,d,w⟩:=h;delta Gj at w;by_cases j:hnd? Z i=true
 ·rw[if_pos j] at w
  refine{Z,b,R,d,ak (ae.mp w) (λf b q v H1 p e z=>?_) λx b q=>q};obtain⟨d,m,q⟩:=au.mp q;refine{.ref a0,hU R (fE j),?_};obtain⟨h,d,n,es,l,rfl⟩:=tY m;subst es;have u:Is K (λ_=>True) H1 f v:=Is.mono {λ_ _ z _=>z,λb o _ z=>⟨trivial,z⟩} (r▸(show Is c.K (λb=>¬b=a0) H1 f v from z));have s:Is K (λ_=>True) H1 (.dct (.non::h) d) (.ref a0):=Top.isTop (c:=D0 K H1) trivial (Top.mono (c:=D0 K H1) (A:=λ_=>False) {λ_ _ z _=>z,λ_ _ f=>False.elim f} (λ_ z=>z) e.2);obtain⟨a,o,m,r,v⟩:=gD l u s;refine{a,o,m,r,?_};have f:o.isSome=(AC n h d).isSome:=by
   rcases v with⟨a,d⟩ | ⟨_,_,a,d,_⟩<;>rw[a,d]<;>rfl
  rw[f];exact q _ H1 p e (BJ.imm aE (show Is c.K (λb=>¬(C2 K a0).mv b) H1 _ _ from Is.bl_iff.mpr rfl) g)
 ·rw[if_neg j] at w;exact w.elim
def yE{y:Str}(e:c.K=K)(f:X.A.units+2<cLine)(b:DE X c .R k fk)(a:PE X (.Name y py) (B1 i))(d:autoParam (behindInMarks .NotIn (.Name y py)=false) uR):DT X c (.Compare k [.NotIn] [.Name y py] pos) (fB D (Gj true i fk)):=
 (iS (jr f b a) d).imp λY H Q q=>tZ (g:=.R) e (show tB (tD c .R (Gj true i fk)) Y H Q from eU q)
def noS{d:D}{P:Prop}(e:(none:Option D)=some d):P:=nomatch e
def t6{x d:D}(e:GR [x]=some d):∃a b,x=.dct (.non::a) b/\a.length<=1000/\d=.int a.length:=by
 cases x with
 | dct a b=>cases a with
   | nil=>exact noS e
   | cons k a=>cases k with
     | non=>
       have e:(if a.length<=1000 then some (D.int a.length) else none)=some d:=e;by_cases h:a.length<=1000
       ·rw[if_pos h] at e;exact{a,b,rfl,h,(Option.some.inj e).symm}
       ·rw[if_neg h] at e;exact noS e
     | _=>exact noS e
 | _=>exact noS e
def HF(i:Nat):Fn D:=λZ st=>if hnd? Z i=true then Au (GR [st]) st else .bad
def yF{x y:Str}{p a:Pos}(h:Gl X x)(l:X.mg x=none)(j:bootBuiltins x=some (.builtin "len"))(f:PE X (.Name y a) (B1 i))(m:autoParam (x≠"__name__") uD)(d:autoParam 'u' uD)(e:autoParam (starEach [.Name y a] X.env=(false,eval (.Name y a) X.env)::starEach [] X.env) uR)(b:autoParam ((backTo pos (starEach [] X.env)).any (·.1)=false) uR):DE X c g (.Call (.Name x p) [.Name y a] [] pos) (HF i):=
 (dC tW h l j (aX f bt e) m d e b).imp λY H Q z=>by
  obtain⟨Z,a,R,e,w⟩:=z;delta HF at w;by_cases a:hnd? Z i=true
  ·rw[if_pos a] at w
   obtain⟨d,b,q⟩:=au.mp w;refine{.ref a0,hU R (fE a),?_};obtain⟨h,f,rfl,d,rfl⟩:=t6 b;obtain⟨f,us,l,m,j,_⟩:=lG e.2;have b:(f.zip us).length=h.length:=by rw[List.length_zip,<-m,Nat.min_self,l,Ai]
   refine{a0,_,rfl,j,by rw[b];exact d,?_};rw[b];exact q _ H Ah.refl e (BJ.imm ag (show Is c.K (λb=>¬(C2 K a0).mv b) H _ _ from Is.int_iff.mpr rfl) g)
  ·rw[if_neg a] at w;exact w.elim
def Fy(st k v:D):Option D:=match st with
 | .dct (.non::ks) vs=>(AN k).bind λkk=>if v.imm=true/\ks.length<sizeLine then some (.dct (.non::(AV kk v ks vs).1) (AV kk v ks vs).2) else none
 | _=>none
open H in
def t7{j k v d:D}(h:Fy j k v=some d):∃a e b,j=.dct (.non::a) e/\AN k=some b/\v.imm=true/\a.length<sizeLine/\d=.dct (.non::(AV b v a e).1) (AV b v a e).2:=by
 delta Fy at h;split at h
 ·rename_i a e
  cases f:AN k with
  | none=>rw[f] at h;cases h
  | some b=>
    rw[f] at h;have h:(if v.imm=true/\a.length<sizeLine then some (D.dct (.non::(AV b v a e).1) (AV b v a e).2) else none)=some d:=h;split at h
    ·rename_i d;cases h;exact⟨a,e,b,rfl,rfl,d.1,d.2,rfl⟩
    ·cases h
 ·cases h
def IJ(i:Nat)(fk fv:Fn D):Ay D:=λZ st=>(fv Z st).bind λv st1=>if hnd? Z i=true then (fk Z st1).bind λk st2=>(Au (Fy st2 k v) st2).bind λd _=>.ok (.nx Z) d else .bad
def yG{x:Str}{P W:Pos}(hK:c.K=K)(hu:X.A.units+2<cLine)(hx:PE X (.Name x P) (B1 i))(hk:DE X c .R k fk)(hv:DE X c .R value fv)(hs:autoParam (swapsWith value (some (.Subscript (.Name x P) k W)) pos.line X.env=pure false) uR) :
 DS X c (.Assign [.Subscript (.Name x P) k W] value pos) (IJ i fk fv):=
 (gk hu hx hk hv hs).imp λD Y H q=>by
  refine aU (cr (g:=.R) (k:=λv Z p=>if hnd? Z i=true then (fk Z p).bind λk j=>(Au (Fy j k v) j).bind λd _=>.ok (.nx Z) d else .bad) q) λv H1 z=>?_
  obtain⟨Z,d,st0,p,R,ok,M,r,e1,z,w⟩:=z;by_cases G:hnd? Z i=true
  ·rw[if_pos G] at w
   refine{.ref a0,hU M (fE G),Z,p,M,r,ak (ae.mp w) (λdk j I vk H2 B a zk=>?_) λx j I H2 B a=>I H2 ((e1.trans B).f0 R) a};obtain⟨d',ed,N⟩:=au.mp (ae.mp I);obtain⟨ks,vs,C,es,O,im,hl,rfl⟩:=t7 ed;subst es;obtain⟨bk,J,E,_⟩:=dW O (show Is c.K (λb=>¬b=a0) H2 dk vk from zk);obtain⟨T,us,ek,el,eH,iu⟩:=lG a.2;subst ek;have zv:Is K (λ_=>False) H2 d v:=Is.ofImm im (hK▸(show Is c.K (λb=>¬(C2 K a0).mv b) H2 d v from z.ext B r));obtain⟨l,m,g1,g2,g3,g4⟩:=gE (k:=C) zv el iu;have hz:(T.zip us).length<sizeLine:=by
    rw[List.length_zip,<-el,Nat.min_self];rw[Ai] at hl;exact hl
   have U:=EO.t (v:=v) eH E hz;rw[g4] at U;subst J;refine{a0,_,rfl,U,?_};have ex:Ah (C2 K a0) H2 (Ag H2 a0 (.dT (l.zip m))):=λb o h n=>by rw[ah n];exact h
   have Q:(C2 K a0).ok (.dct (.non::(AV C d (T.map AD) vs).1) (AV C d (T.map AD) vs).2) (Ag H2 a0 (.dT (l.zip m))):=by
    have ks:∀b o,H2 b=some o->C8 o->Ag H2 a0 (.dT (l.zip m)) b=some o:=λb o h s=>by
     by_cases e:b=a0
     ·have z:=Option.some.inj (eH.symm.trans (e▸h))
      exact s.elim (λy=>y.elim λu e=>nomatch z.trans e) λy=>y.elim λob y=>y.elim λu e=>nomatch z.trans e
     ·rw[ah e];exact h
    refine{e7 im a.1,m,g2.mono {ks,λ_ _ f=>False.elim f},.inr {l,by rw[g1],g3,aw}}
   exact N Y _ ((e1.trans (B.trans ex)).frm) Q ((M.ext r B).ext a ex)
  ·rw[if_neg G] at w;exact(show False from w).elim
end
instance spL{S:Type}(W:Wd S)(K:FG)(F:List D->S->Ar S D):Sp:=λvs H Q _=>∃l us st,vs=us++[W.h]/\aa K 'w' H l us/\W.ok st H/\
 Aa (F l st) (λd st'=>∀v H',Ah W H H'->W.ok st' H'->Is K (λb=>¬W.mv b/\H b=none) H' d v->Q v H') λ_ _=>False
def D9(n:Nat)(l:List D):Ae:=l.map Sl.bor++Sl.hnd::List.replicate (n-1-l.length) .no
def FT{S:Type}(n p:Nat)(B:Ay S):List D->S->Ar S D:=λl st=>if l.length+1=p/\p<=n then Ih (B (D9 n l) st) else .bad
def lH{n:Nat}{i:Nat}(h:(D9 n l)[i]?=some s):(∃d,s=.bor d/\l[i]?=some d)\/(s=.hnd/\i=l.length)\/s=.no:=by
 delta D9 at h;by_cases a:i<l.length
 ·rw[EW (by rw[Ai];exact a),AK] at h
  cases q:l[i]? with
  | none=>rw[q] at h;cases h
  | some d=>rw[q] at h;cases h;exact .inl ⟨d,rfl,rfl⟩
 ·rw[G7 (by rw[Ai];exact EE a),Ai] at h
  cases e:i-l.length with
  | zero=>rw[e] at h;cases h;exact .inr (.inl {rfl,Fm (Nat.le_of_sub_eq_zero e) (EE a)})
  | succ m=>
    rw[e,List.getElem?_cons_succ,Hc] at h;split at h
    ·cases h;exact .inr (.inr rfl)
    ·cases h
def t8{N:List Str}{us:List V}{h:V}{l:List D}(a:l.length=us.length):(B8 N (us++[h])).length=(D9 N.length l).length:=by
 delta B8 D9;rw[A7,Ai,A7,Gw,A7,Ai,a];show us.length+1+(N.length-(us.length+1))=us.length+((List.replicate (N.length-1-us.length) Sl.no).length+1);rw[Gw,Nat.sub_sub,Cq 1 us.length,Eh,Cq 1 (N.length-_)]
section
variable{P:Program}{w:World}{K:FG}{mg:Str->Option Value}{base:Heap}
open H in
def CF.dL{Sx:Type}{W:Wd Sx}{x qual:Str}{st:Stmt}{f:Addr}{fd:FuncData}{N ps:List Str}{k:Nat}{B:Ay Sx}(F:CF K x qual st f fd)(S:C5 N ps (AM st))(hb:∀(cdv:Value) (A:Around) (outer:List Env) (s:Shared) (H:Hp) (E:XK),AT k (A.deeper (envOfC qual (AM st) s.heap.objs.size f cdv))->
  Ce (CI CX0 P w K mg base N qual (AM st) f cdv A outer s H E).nox (DL W K H) (B9 st) B):Cs P w K mg base CX0 (k+1) f fd ps (spL W K (FT N.length ps.length B)):=by
 refine F.ok S (λvs H Q E h=>?_) λcdv A outer s H vs Q E hr h=>?_
 ·obtain⟨l,us,st0,rfl,i,ok,w⟩:=h
  delta FT at w;split at w
  ·rename_i hl
   rw[A7,<-i.length];exact hl.1
  ·exact w.elim
 ·obtain⟨l,us,st0,rfl,i,ok,w⟩:=h
  delta FT at w;split at w
  ·rename_i hl
   have il:=i.length;have no:∀b,¬Ow (B8 N (us++[W.h])) (D9 N.length l) b:=λb hI54=>by
    obtain⟨j,d,h1,_⟩:=hI54;rcases lH h1 with⟨_,z,_⟩ | ⟨z,_⟩ | z<;>cases z
   have R:Ax (DL W K H) H (B8 N (us++[W.h])) (D9 N.length l):=by
    refine{?_,λb o e _=>e,λj s hs=>?_,λb z=>z.elim,λj j' a d e h1 _ h3 _=>(no a ⟨j,d,h1,h3⟩).elim}
    ·exact t8 il
    ·rcases lH hs with⟨d,rfl,hd⟩ | ⟨rfl,rfl⟩ | rfl
     ·obtain⟨v,hv,iv⟩:=i.get hd
      exact{v,by rw[dP (v:=v) (by rw[EW (AQ.mp hv).1];exact hv)];rfl,iv.mono {λ_ _ z _=>z,λb o a z=>{{a,no b,λm=>m},z}}}
     ·show ((B8 N (us++[W.h]))[l.length]?).join=some W.h
      rw[dP (v:=W.h) (by rw[il,G7 (Ap _)];simp)];rfl
     ·trivial
   refine{_,hb cdv A outer s H E hr,D9 N.length l,st0,R,ok,?_};cases q:B (D9 N.length l) st0 with
   | bad=>rw[q] at w;exact w.elim
   | exc x u=>rw[q] at w;exact w.elim
   | ok fl u=>
     rw[q] at w;cases fl with
     | rt d=>exact λv H' f0 ok' z=>w v H' f0 ok' z
     | nx Z=>exact λY' H' fr ok' R'=>w .non H' (λb o e n=>R'.frame b o e n) ok' (Is.non_iff.mpr rfl)
     | bk Z=>exact w.elim
     | ct Z=>exact w.elim
  ·exact w.elim
end
section
variable{X:Cx}{S:Type}{W:Wd S}{c:Dx W}{i j k:Nat}{f x y:Str}{ps:List Str}{e1 e2:Expr}{f1 f2':Fn S}{G:List D->D->Ar D D}{pf py p pos pos':Pos}
def FU(Z:Ae)(j:Nat):Option D:=match Z[j]? with
 | some (.own d)=>if d.flat=true then some d else none
 | _=>none
def t9(h:FU Z j=some d):Z[j]?=some (.own d)/\d.flat=true:=by
 delta FU at h;split at h
 ·split at h
  ·cases h;exact{by assumption,by assumption}
  ·cases h
 ·cases h
def HG(S:Type)(i j:Nat)(G:List D->D->Ar D D)(fa:Ba S):Ay S:=λZ st=>match FU Z j with
 | some d=>(fa Z st).bind λl st1=>if D.immL l=true/\i≠j then (match G l d with
  | .ok r d'=>(Au (putN (Z.set j (.own d')) i r) st1).bind λZ' st2=>.ok (.nx Z') st2
  | _=>.bad) else .bad
 | none=>.bad
def uc(C:∀a,Cv X.prog X.w X.K X.mg X.base k f ps (spL (C2 X.K a) X.K G))(u:AT k X.A)(n:Gl X f)(h:PE X e1 t1)(z:PE X e2 t2)(g:PE X (.Name y py) (B1 j))(d:autoParam ((f == ("__debug__" : Str))=false) uD)(e:autoParam (starEach [e1,e2,.Name y py] X.env=(false,eval e1 X.env)::starEach [e2,.Name y py] X.env) uR)(r:autoParam (starEach [e2,.Name y py] X.env=(false,eval e2 X.env)::starEach [.Name y py] X.env) uR)(o:autoParam (starEach [.Name y py] X.env=(false,eval (.Name y py) X.env)::starEach [] X.env) uR)(b:autoParam ((backTo pos (starEach [e2,.Name y py] X.env)).any (·.1)=false) uR):PE X (.Call (.Name f pf) [e1,e2,.Name y py] [] pos) (λY H Q=>∃a,Hh (spL (C2 X.K a) X.K G) [] E0 (FM t1 (FM t2 (FM (B1 j) HW))) Y H Q):=
 λm s Y H Q I hI55=>by
  obtain⟨a,q⟩:=hI55;obtain⟨J,B,v,l,A,F⟩:=(C a).ex;exact eR (E:=E0) F u n v l A .nil eS (aX h (aX z (aX g bt o) r) e) d e b m s Y H Q I q
def ud{K:FG}{e:Addr->Prop}{H:Hp}{d:D}{a:Addr}(g:d.flat=true)(b:Top K e H d a):(C2 K a).ok d H:={g,by
 cases d with
 | lst l=>obtain⟨a,e,i⟩:=b;exact{a,e,aa.ofImm g i}
 | dct d l=>obtain⟨a,i,q⟩:=b;exact{a,aa.ofImm g i,q}
 | _=>exact b}
open H in
def yH(hK:c.K=X.K)(C:∀a,Cv X.prog X.w X.K X.mg X.base k f ps (spL (C2 X.K a) X.K G))(hr:AT k X.A)(hg:Gl X f)(hN:X.N.Nodup)(hi:X.N[i]?=some x)(hx:Loc X.env.scope x)(h1:DE X c .R e1 f1)(h2:DE X c .R e2 f2')(hy:PE X (.Name y py) (B1 j))(hdb:autoParam ((f == ("__debug__" : Str))=false) uD)(s1:autoParam (starEach [e1,e2,.Name y py] X.env=(false,eval e1 X.env)::starEach [e2,.Name y py] X.env) uR)(s2:autoParam (starEach [e2,.Name y py] X.env=(false,eval e2 X.env)::starEach [.Name y py] X.env) uR)(s3:autoParam (starEach [.Name y py] X.env=(false,eval (.Name y py) X.env)::starEach [] X.env) uR)(hpl:autoParam ((backTo pos (starEach [e2,.Name y py] X.env)).any (·.1)=false) uR)(hs:autoParam (swapsWith (.Call (.Name f pf) [e1,e2,.Name y py] [] pos) (some (.Name x p)) pos'.line X.env=pure false) uR)(hf:autoParam (X.fn x=true\/X.env.scope.names.lookup x=some .local) M3._auto_1) :
 DS X c (.Assign [.Name x p] (.Call (.Name f pf) [e1,e2,.Name y py] [] pos) pos') (HG S i j G (Cu S f1 (Cu S f2' (Gb S)))):=
 (bF hN hi hx (uc C hr hg h1 h2 hy hdb s1 s2 s3 hpl) hs hf).imp λEn Y H hI56=>by
  obtain⟨Z,st,R,ok,w⟩:=hI56;delta HG at w;cases hj:FU Z j with
  | none=>rw[hj] at w;exact w.elim
  | some d=>
    rw[hj] at w;obtain⟨ho,fl⟩:=t9 hj;obtain⟨a,ea,nn,f0,tp⟩:=R.slot j _ ho;have U:=bb ea;refine{a,Z,st,R,ok,ak (ae.mp (ae.mp w)) (λd1 st1 q1 v1 H1 x1 M z1=>?_) λx st1 q H1 x1 M=>q H1 (x1.f0 R) M};refine{Z,st1,R.ext ok x1,M,ak (ae.mp (ae.mp q1)) (λT l g v2 H2 x2 n z2=>?_) λx l q H2 x2 n=>q H2 ((x1.trans x2).f0 R) n};refine{.ref a,U,?_};have g:Aa (if D.immL [d1,T]=true/\i≠j then (match G [d1,T] d with
     | .ok r d'=>(Au (putN (Z.set j (.own d')) i r) l).bind λZ' l=>.ok (.nx Z') l
     | _=>.bad) else .bad) (Dj c En Y Z H) (D3 c):=g
    by_cases hc:D.immL [d1,T]=true/\i≠j
    ·rw[if_pos hc] at g
     obtain⟨im,hij⟩:=hc;have im1:d1.imm=true/\T.imm=true:={(Gz.mp im).1,(Gz.mp (Gz.mp im).2).1};have x12:=x1.trans x2;have R2:=R.ext ok x12;obtain⟨e,eb,nn2,f02,tp2⟩:=R2.slot j _ ho;have:e=a:=by
      have:=(bb eb).symm.trans U;cases this;rfl
     subst this;obtain⟨u,hu,nt,nf⟩:=Top.there (c:=c) tp2;have ns:¬C8 u:=λs=>s.elim (λz=>z.elim nt) λz=>z.elim λob z=>z.elim (nf ob)
     have okd:(C2 X.K e).ok d H2:=ud fl (hK▸tp2);refine{[d1,T],[v1,v2],d,rfl,aa.cons.mpr {_,_,rfl,Is.ofImm im1.1 (hK▸(show Is c.K 'w' H2 d1 v1 from z1.ext x2 M)),aa.one (Is.ofImm im1.2 (hK▸(show Is c.K 'w' H2 T v2 from z2)))},okd,?_};cases hG:G [d1,T] d with
     | bad=>rw[hG] at g;exact g.elim
     | exc x s=>rw[hG] at g;exact g.elim
     | ok r d'=>
       rw[hG] at g;obtain⟨Z',O,g⟩:=au.mp (ae.mp g);intro v P x' ok' z';have z':Is X.K (λb=>¬b=e/\H2 b=none) P r v:=z';obtain⟨o',ho',nt',nf'⟩:=Top.there (c:=D0 X.K P) ok'.2;have ns':¬C8 o':=λs=>s.elim (λz=>z.elim nt') λz=>z.elim λob z=>z.elim (nf' ob)
       -- the heap with what is new,the dict as it was
       obtain⟨E,hm1,I⟩:∃E:Hp,E e=H2 e/\∀b,b≠e->E b=P b:={λb=>if b=e then H2 e else P b,if_pos rfl,λb B=>if_neg B};have eH:Ag E e o'=P:=by
        funext b;by_cases B:b=e
        ·rw[B,aw,ho']
        ·rw[ah B,I b B]
       have kp:∀b o,H2 b=some o->E b=some o:=λb o h=>by
        by_cases B:b=e
        ·rw[B] at h ⊢;exact hm1.trans h
        ·rw[I b B];exact x' b o h B
       have xm:Ah W H2 E:=λb o h _=>kp b o h
       have okm:W.ok l E:=W.stay l H2 E n (λb o _ h=>kp b o h) λb o h _=>kp b o h
       have zm:Is c.K (Av c Y Z) E r v:=by
        rw[hK];refine z'.mono {λb o h s=>?g1,λb o nb h=>{{bH n nb.2,λow=>?g2,λav=>?g3},?g4}};case g1=>
         by_cases B:b=e
         ·exact(ns' (Option.some.inj (ho'.symm.trans (B▸h))▸s)).elim
         ·rw[I b B];exact h
        case g2=>
         obtain⟨_,_,o2,h2,_⟩:=R2.owOk ow;exact nomatch nb.2.symm.trans h2
        case g3=>
         obtain⟨_,_,o2,h2,_⟩:=R2.avl b av;exact nomatch nb.2.symm.trans h2
        case g4=>rw[I b nb.1];exact h
       delta putN at O;by_cases J:i<(Z.set j (.own d')).length
       ·rw[if_pos J] at O
        have Q:i<Z.length:=by rw[EF] at J;exact J
        have fin:∀(s:Sl),Ax c E (Y.set i (some v)) (Z.set i s)->Bj c H2 Y Z E (Y.set i (some v)) (Z.set i s)->Z'=(Z.set j (.own d')).set i s->En.nx (Y.set i (some v)) P:=λs R3 F3 er=>by
         have hj2:(Z.set i s)[j]?=some (.own d):=by rw[DD hij];exact ho
         have sj2:(Y.set i (some v))[j]?=some (some (.ref e)):=by rw[DD hij];exact U
         obtain⟨R4,F4⟩:=R3.wr (d':=d') (o:=o') hj2 sj2 ⟨nt',nf'⟩ λk=>by
          rw[eH,hK];exact Top.mono (c:=D0 X.K P) (A:=λ_=>False) {λ_ _ z _=>z,λ_ _ f=>False.elim f} (λ_ z=>z) ok'.2
         have es:(Z.set i s).set j (.own d')=Z':=by rw[er,List.set_comm _ _ hij]
         rw[eH,es] at R4 F4;exact g _ P ((x12.frm.trans F3).trans F4) (eH▸bY okm nn.1 (hm1.trans hu) ns) R4
        by_cases m:r.flat=true
        ·rw[if_pos m] at O
         obtain⟨b,rfl,mu,av,_⟩:=gq z' m;obtain⟨R3,F3⟩:=R2.setO (i:=i) n xm okm Q zm m av.2;exact fin _ R3 F3 (Option.some.inj O).symm
        ·rw[if_neg m] at O
         exact fin _ ((R2.ext n xm).setB Q zm) (xm.frm.trans bc) (Option.some.inj O).symm
       ·rw[if_neg J] at O;exact nomatch O
    ·rw[if_neg hc] at g;exact g.elim
section
variable{Q:Fl->S->Prop}{E:AG->S->Prop}{Z:Ae}{st:S}{fa:Ba S}
def ue:Aa (HG S i j G fa Z st) Q E↔∃d,FU Z j=some d/\Aa (fa Z st) (λl a=>D.immL l=true/\i≠j/\Aa (G l d) (λr d'=>∃b,putN (Z.set j (.own d')) i r=some b/\Q (.nx b) a) λ_ _=>False) E:=by
 delta HG;cases h:FU Z j with
 | none=>exact{λq=>q.elim,λ⟨d,e,_⟩=>by cases e}
 | some d=>
   refine Iff.trans (aJ (P:=λl a=>D.immL l=true/\i≠j/\Aa (G l d) (λr d'=>∃b,putN (Z.set j (.own d')) i r=some b/\Q (.nx b) a) λ_ _=>False) λl a=>?_) {λq=>⟨d,rfl,q⟩,λ⟨d',e,q⟩=>by cases e;exact q};by_cases a:D.immL l=true/\i≠j
   ·rw[if_pos a]
    cases G l d with
    | bad=>exact{λq=>q.elim,λq=>q.2.2.elim}
    | exc x s=>exact{λq=>q.elim,λq=>q.2.2.elim}
    | ok r d'=>
      dsimp only;rw[ae,au];exact{λq=>⟨a.1,a.2,q⟩,λq=>q.2.2}
   ·rw[if_neg a];exact{λq=>q.elim,λq=>a ⟨q.1,q.2.1⟩}
end
end
end L2
namespace Ts
open PySem PyProof PyProof.Rows
structure D1(prog:Program)(w:World)(O:KeyOrd) where
 at_:Heap->Value->O.α->Prop
 ok:O.α->Prop
 dflt:O.α
 fn:∀{h v a b},at_ h v a->at_ h v b->a=b
 keep:∀{h h':Heap} {v a},at_ h v a->(∀b o,o.cls≠.type "list"->h.get? b=some o->h'.get? b=some o)->at_ h' v a
 knd:SortKind
 room:Around->Prop
 kind:∀{A:Around} {E:Value->Shared->Prop} {s:Shared} {vs:List Value} {Q:SortKind->Shared->Prop},(∀v∈vs,∃a,ok a/\at_ s.heap v a)->2<=vs.length->Q knd s->wpAny 'r' A (keyKind' vs.toArray) Q E s
 cmp:∀{A:Around} {E:Value->Shared->Prop} {s:Shared} {st:SortSt} {x y:Keyed} {a b:O.α} {Q:Option Bool->SortSt->Prop},room A->kindOf st=knd->at_ s.heap x.1 a->at_ s.heap y.1 b->Q (some (O.blt a b)) st->wpS 'r' A E s (lt' x y) Q st
section
variable(S:D1 prog w O)
open Classical in
instance D1.key(h:Heap)(v:Value):Option O.α:=if z:∃a,S.at_ h v a then some z.choose else none
def D1.key_of(z:S.at_ h v a):S.key h v=some a:=by
 have y:∃a,S.at_ h v a:=⟨a,z⟩;delta D1.key;rw[dif_pos y,S.fn y.choose_spec z]
open H in
def D1.at_of(z:S.key h v=some a):S.at_ h v a:=by
 delta D1.key at z;split at z
 ·rename_i y
  cases z;exact y.choose_spec
 ·cases z
abbrev D1.kk(h:Heap):KeyKind:={O,S.key h,S.dflt}
def D1.cmpK(f:S.room A):Dv prog w A E s (S.kk s.heap) S.knd:=λc x y a b Q e d c h=>S.cmp f e (S.at_of d) (S.at_of c) h
variable{S}
def hV{h:Heap}{a:Addr}{n:Nat}{c us:List Value}(o1:h.get? a=some (seqObj "list" c.toArray n)){v:Value}{p:O.α}(z:S.at_ h v p):S.at_ (El h a us) v p:=S.keep z λb o nl g=>sZ g λe=>by
 subst e;rw[o1] at g;cases g;exact nl rfl
def lI(u:S.room A){n:Nat}(o1:s.heap.get? a=some (seqObj "list" c.toArray n))(r:∀v∈c,∃p,(2<=c.length->S.ok p)/\S.at_ s.heap v p)(g:c.length<128)(h:∀b:Array Value,b.toList.Perm c->b.toList.Pairwise (λx y=>∀p q,S.at_ s.heap x p->S.at_ s.heap y q->O.kle p q)->P (.done (.ret .none)) { s with heap:=sortedHeap s.heap a c b }) :
 wpAny 'r' A (Builtin.«list.sort» {[.ref a],[]}) P E s:=by
 rw[list_sort_plain];have d:a<s.heap.objs.size:=Heap.lt_size o1;refine Ac (listItems_at o1 rfl ?_);refine Ac (listUpdate_at o1 rfl ?_);obtain⟨b,o2⟩:∃b,(s.heap.update a (Obj.mapSeq λ_=>#[])).get? a=some (seqObj "list" #[] b):={_,get?_update_seq o1 (λ_=>#[])};refine Ac (seqEpoch_at o2 rfl ?_);refine Ac (wpAny_newTuple (Ac (wpAny_newList (wpAny_holding ?_))));have l:(El s.heap a c).get? a=some (seqObj "list" #[] b):=by
  delta El;rw[GB _ _ _ (by rw[size_push',Heap.size_update];exact Br (Nat.lt_succ_of_lt d)),GB _ _ _ (by rw[Heap.size_update];exact Br d)];exact o2
 show wpAny 'r' A _ P E { s with heap:=El s.heap a c };dsimp only;have b:c.toArray.size=c.length:=by simp
 have fin:∀b:SortSt,(arrOf b).Perm (pairsOf c)->Up (S.kk (El s.heap a c)) (arrOf b) 0 (pairsOf c).size->P (.done (.ret .none)) { s with heap:=sortedHeap s.heap a c ((arrOf b).map (·.2)) }:=by
  intro b d o;have f:(arrOf b).toList.Perm (c.zip c):=by rw[<-pairsOf_toList];exact Array.perm_iff_toList_perm.mp d
  have x:∀p,p∈(arrOf b).toList->p.1=p.2/\p.1∈c:=λp e=>mem_zip_self (f.mem_iff.mp e)
  refine h _ ?_ ?_
  ·rw[Array.toList_map]
   have:=f.map (·.2);rwa [List.map_snd_zip (Ap _)] at this
  ·rw[Array.toList_map,List.pairwise_map,FY]
   intro i j n m h;have f:i<(arrOf b).size:=by simpa using n
   have e:j<(arrOf b).size:=by simpa using m
   have n:=o i j (AF _) (BB h) (by rw[<-d.size_eq];exact e);rw[aD f,aD e] at n;intro p q y A;have k:∀t (h:t<(arrOf b).size) (p:O.α),S.at_ s.heap (arrOf b)[t].2 p->ky (S.kk (El s.heap a c)) (arrOf b)[t]=p:=λt h p z=>by
    have m:=x _ (Array.getElem_mem_toList h);show (S.key (El s.heap a c) (arrOf b)[t].1).getD S.dflt=_;rw[m.1,S.key_of (hV o1 z)];rfl
   rw[k i f p (by simpa using y),k j e q (by simpa using A)] at n;exact n
 by_cases e:c.toArray.size<2
 ·rw[if_pos e,if_pos e]
  refine Ac (Ao ?_);rw[StateT.run_pure];refine Ac (Ao ?_);dsimp only;refine Ac (seqEpoch_at l rfl ?_);refine Ac (listUpdate_at l rfl ?_ (hsz2:=Az (BQ ((Array.size_map ..).trans (pairsOf_size _))) (by rw[sizeLine_eq];omega)));simp only[bne_self_eq_false,Du,if_false];exact Ao (fin (SortSt.mk' general' (c.toArray.zip c.toArray) #[] 7 none) (Array.Perm.refl _) (Up.one (by rw[pairsOf_size];omega)))
 ·rw[if_neg e,if_neg e]
  refine Ac (S.kind (s:={ s with heap:=El s.heap a c }) (λv m=>(r v m).imp λp z=>{z.1 (by simpa using EE e),hV o1 z.2}) (by simpa using EE e) ?_);refine Ac (Db (sW (s:={ s with heap:=El s.heap a c }) (a₀:=pairsOf c) (st:=SortSt.mk' S.knd (c.toArray.zip c.toArray) #[] 7 none) (Q:=λ_ b=>(arrOf b).Perm (pairsOf c)/\failedOf b=none/\Up (S.kk (El s.heap a c)) (arrOf b) 0 (pairsOf c).size) (S.cmpK u) (λp d=>?_) {Array.Perm.refl _,rfl,rfl,rfl} (by rw[pairsOf_size];omega) (by rw[pairsOf_size];exact g) λb a f h=>⟨a,f,h⟩) ?_ λ_ _ e=>e)
  ·rw[pairsOf_toList] at d
   obtain⟨q,z⟩:=r _ (mem_zip_self d).2;exact{q,S.key_of (hV o1 z.2)}
  ·rintro ⟨⟨⟩,b⟩ s' ⟨rfl,d,a,o⟩
   dsimp only;refine Ac (seqEpoch_at l rfl ?_);refine Ac (listUpdate_at l rfl ?_ (hsz2:=Az (BQ ((Array.size_map ..).trans (d.size_eq.trans (pairsOf_size _)))) (by rw[sizeLine_eq];omega)));rw[a];simp only[bne_self_eq_false,Du,if_false];exact Ao (fin b d o)
def uf(r:∀b:Around,b.units<=A.units+4->S.room b)(d:s.heap.IsList l a.toArray)(n:∀v∈a,∃p,(2<=a.length->S.ok p)/\S.at_ s.heap v p)(e:a.length<128)(h:∀c:Array Value,c.toList.Perm a->c.toList.Pairwise (λx y=>∀p q,S.at_ s.heap x p->S.at_ s.heap y q->O.kle p q)->Q (.ref (s.heap.objs.size+1)) { s with heap:=sortedAll s.heap a c }) :
 wpAny 'r' A (call (.builtin "sorted") [.ref l]) Q E s:=by
 refine Calls.call_function_entry kind_sorted plain_sorted entry_sorted (args_sorted1 _) ?_;unfold Builtin.«sorted»;refine Ac (m:=checkCount "sorted" 1 1 _) (Ao (Ac (collect_list d ?_ (by rw[sizeLine_eq];omega))));refine Ac (wpAny_newList ?_);have d:((s.heap.push (seqObj "list" #[] 0)).update s.heap.objs.size (Obj.mapSeq (·++a.toArray))).objs.size=s.heap.objs.size+1:=by
  rw[Heap.size_update,size_push']
 have o1:(((s.heap.push (seqObj "list" #[] 0)).update s.heap.objs.size (Obj.mapSeq (·++a.toArray))).push (seqObj "list" a.toArray 0)).get? (s.heap.objs.size+1)=some (seqObj "list" a.toArray 0):=by
  rw[<-d];exact Be _ rfl
 show wpAny _ _ _ _ _ { s with heap:=((s.heap.push (seqObj "list" #[] 0)).update s.heap.objs.size (Obj.mapSeq (·++a.toArray))).push (seqObj "list" a.toArray 0) };rw[d];generalize j:((s.heap.push (seqObj "list" #[] 0)).update s.heap.objs.size (Obj.mapSeq (·++a.toArray))).push (seqObj "list" a.toArray 0)=H1 at o1 ⊢;have i:∀b o,s.heap.get? b=some o->H1.get? b=some o:=λb o g=>by
  have f:=Heap.lt_size g;rw[<-j,GB _ _ _ (by rw[d];exact Br (Nat.lt_succ_of_lt f)),Heap.get?_update_ne _ _ _ _ (Br f),GB _ _ _ (Br f)];exact g
 have d:∀v p,S.at_ s.heap v p->S.at_ H1 v p:=λv p z=>S.keep z λb o _ g=>i b o g
 refine Ac (wpAny_holding (DX slot_list_sort {_,o1,rfl} entry_list_sort (lI (s:={ s with heap:=H1 }) (r _ (by simp only[Around.in1_units];omega)) o1 (λv m=>(n v m).imp λp z=>{z.1,d v p z.2}) e λc f b=>{_,rfl,?_}) (args_list_sort _)));refine Ao {_,rfl,?_};have:=h c f (b.imp λ{x y} z p q b c=>z p q (d _ _ b) (d _ _ c));unfold sortedAll at this;rw[j] at this;exact this
end
open PySem PyProof PyProof.Rows PySem.W
abbrev Pt:=Int×Int
def Cg:List Pt->List Pt->Bool
 | [],[]=>false
 | [],_::_=>true
 | _::_,[]=>false
 | a::l,b::m=>lx a b||(decide (a=b)&&Cg l m)
theorem lJ:∀l,Cg l l=false
 | []=>rfl
 | a::l=>by unfold Cg;rw[hD,lJ l];simp
def ug{a b:Pt}{l m:List Pt}:Cg (a::l) (b::m)=(lx a b||(decide (a=b)&&Cg l m)):=rfl
def eE:Cg (a::l) (b::m)=true↔lx a b=true\/a=b/\Cg l m=true:=by
 show (lx a b||(decide (a=b)&&Cg l m))=true↔_;simp
theorem lK:∀a b c,Cg a b=true->Cg b c=true->Cg a c=true
 | [],[],_,h,_=>by cases h
 | [],_::_,[],_,h=>by cases h
 | [],_::_,_::_,_,_=>rfl
 | _::_,[],_,h,_=>by cases h
 | _::_,_::_,[],_,h=>by cases h
 | a::l,b::m,c::n,e,d=>by
   rw[eE] at *;rcases e with e | ⟨rfl,e⟩
   ·rcases d with d | ⟨rfl,d⟩
    ·exact .inl (eC e d)
    ·exact .inl e
   ·rcases d with d | ⟨rfl,d⟩
    ·exact .inl d
    ·exact .inr {rfl,lK l m n e d}
theorem lL:∀a b c,Cg a c=true->Cg a b=true\/Cg b c=true
 | [],[],_,h=>.inr h
 | [],_::_,_,_=>.inl rfl
 | _::_,_,[],h=>by cases h
 | _::_,[],_::_,_=>.inr rfl
 | a::l,b::m,c::n,h=>by
   rw[eE] at *;rw[eE];rcases h with h | ⟨rfl,h⟩
   ·rcases lB b h with q | q
    ·exact .inl (.inl q)
    ·exact .inr (.inl q)
   ·cases c:lx a b with
    | true=>exact .inl (.inl rfl)
    | false=>cases d:lx b a with
      | true=>exact .inr (.inl rfl)
      | false=>
        have e:=fx c d;subst e;rcases lL l m n h with q | q
        ·exact .inl (.inr ⟨rfl,q⟩)
        ·exact .inr (.inr ⟨rfl,q⟩)
theorem lM:∀a b,Cg a b=false->Cg b a=false->a=b
 | [],[],_,_=>rfl
 | [],_::_,h,_=>by cases h
 | _::_,[],_,h=>by cases h
 | a::l,b::m,d,c=>by
   have g:¬(lx a b=true\/a=b/\Cg l m=true):=λz=>by rw[eE.mpr z] at d;cases d
   have f:¬(lx b a=true\/b=a/\Cg m l=true):=λz=>by rw[eE.mpr z] at c;cases c
   have e:a=b:=fx (by simpa using λz=>g (.inl z)) (by simpa using λz=>f (.inl z));subst e;rw[lM l m (by simpa using λz=>g (.inr ⟨rfl,z⟩)) (by simpa using λz=>f (.inr ⟨rfl,z⟩))]
instance stO:KeyOrd where
 α:=List Pt
 blt:=Cg
 irrefl:=lJ
 trans:=lK
 negTrans:=lL
 total:=lM
def HH(h:Heap)(v:Value)(l:List Pt):Prop:=∃a o items n,v=.ref a/\h.get? a=some o/\o.cls=.type "tuple"/\o.data=.seq items n/\Paired (Bk h) items.toList l
def Bk.fn(x:Bk h v p)(y:Bk h v q):p=q:=by
 obtain⟨a,o,n,t,u,e,g,_,d⟩:=x;obtain⟨_,_,_,_,_,e',b,_,d'⟩:=y;have a:=Option.some.inj (g.symm.trans ((congrArg h.get? (Value.ref.inj (e.symm.trans e'))).trans b));have l:=List.cons.inj (congrArg Array.toList (Data.seq.inj (d.symm.trans ((congrArg Obj.data a).trans d'))).1);exact Prod.ext (Value.int.inj l.1).1 (Value.int.inj (List.cons.inj l.2).1).1
def Paired.inv0{α β:Type}{R:α->β->Prop}{l:List β}(x:Paired R [] l):l=[]:=by cases x;rfl
def Paired.inv1{α β:Type}{R:α->β->Prop}{u:α}{us:List α}{l:List β}(x:Paired R (u::us) l):∃p m,l=p::m/\R u p/\Paired R us m:=by
 cases x with | cons a b=>exact{_,_,rfl,a,b}
def uh(x:Paired (Bk h) us l)(y:Paired (Bk h) us m):l=m:=by
 induction x generalizing m with
 | nil=>exact(Paired.inv0 y).symm
 | cons a _ b=>
   obtain⟨_,_,rfl,c,d⟩:=Paired.inv1 y;rw[a.fn c,b d]
def Bk.keep(k:∀b o,o.cls≠.type "list"->h.get? b=some o->h'.get? b=some o)(x:Bk h v p):Bk h' v p:=by
 obtain⟨a,o,n,t,u,e,g,c,d⟩:=x;exact{a,o,n,t,u,e,k _ _ (by rw[c];decide) g,c,d}
def ui(k:∀b o,o.cls≠.type "list"->h.get? b=some o->h'.get? b=some o)(x:Paired (Bk h) us l):Paired (Bk h') us l:=by
 induction x with
 | nil=>exact .nil
 | cons a _ b=>exact .cons (a.keep k) b
def Bk.isKey(x:Bk h v p):∃a,v=.ref a/\IsTupleKey (intKind prog w) h [p.1,p.2] a:=by
 obtain⟨a,o,n,t,u,e,g,c,d⟩:=x;exact{a,e,o,_,n,g,c,d,.cons (intKind_is _ _ _ _) (.cons (intKind_is _ _ _ _) .nil)}
section
variable{prog:Program}{w:World}{A:Around}{E:Value->Shared->Prop}{s:Shared}
def uj(d:A.units<cLine)(x:Bk s.heap u p)(y:Bk s.heap v q)(h:Q (decide (p=q)) s):wpAny 'r' A (eqBool u v) Q E s:=by
 obtain⟨a,rfl,c⟩:=x.isKey (prog:=prog) (w:=w);obtain⟨b,rfl,a⟩:=y.isKey (prog:=prog) (w:=w);refine wpAny_eqBool_tuple d c a ?_;have e:decide ([p.1,p.2]=[q.1,q.2])=decide (p=q):=decide_eq_decide.mpr {λz=>by simp only[List.cons.injEq,and_true] at z;exact Prod.ext z.1 z.2,λz=>by rw[z]};rw[e];exact h
def uk(a:A.units<cLine)(x:Bk s.heap u p)(y:Bk s.heap v q)(h:Q (lx p q) s):wpAny 'r' A (oneLt' false u v) Q E s:=by
 rw[oneLt'_eq];simp only[Du,if_false];exact Ac (HT.lt_two a x y (Ec h))
def lO{f:Bool}{b:SortSt}{x y:Keyed}{i j:Addr}{c e:Obj}{d a:Array Value}{n k:Nat}{Q:Option Bool->SortSt->Prop}(g:kindOf b=tuples' f)(l:x.1=.ref i)(o:y.1=.ref j)(g1:s.heap.get? i=some c)(m:c.data=.seq d n)(g2:s.heap.get? j=some e)(i:e.data=.seq a k)(h:∀R:Bool->Shared->Prop,(∀c,Q (some c) b->R c s)->KatLex prog w A f (decide (d.size<a.size)) R (d.toList.zip a.toList) 0 s):wpS 'r' A E s (lt' x y) Q b:=by
 rw[lt'_eq];refine af (wpS_get ?_);rw[g,l,o];exact af (wpS_lift (wpAny_attempt (kat_lt g1 m g2 i (h _ λc q=>{rfl,aj q}))))
def ul(c:A.units<cLine){d:Bool}(k:Nat)(x:Paired (Bk s.heap) us l)(y:Paired (Bk s.heap) b m)(a:d=decide (l.length<m.length))(h:Q (Cg l m) s) :
 KatLex prog w A false d Q (us.zip b) k s:=by
 induction x generalizing b m k with
 | nil=>
   subst a;cases y<;>exact h
 | @cons _ p _ l x e d=>cases y with
   | nil=>
     subst a;exact h
   | @cons _ q _ m y f=>
     refine kat_cons (uj c x y ?_);rw[ug] at h;by_cases e:p=q
     ·rw[aA e] at h ⊢
      rw[e,hD] at h;exact kat_yes (d (k+1) f (a.trans (decide_eq_decide.mpr ⟨Gv,Nat.succ_lt_succ⟩)) h)
     ·rw[ax e] at h ⊢
      rw[Bool.false_and,Bool.or_false] at h;exact kat_no (uk c x y h)
def um{c:SortSt}(m:A.units<cLine)(e:kindOf c=tuples' false)(f:HH s.heap x.1 a)(d:HH s.heap y.1 b)(h:Q (some (Cg a b)) c):wpS 'r' A E s (lt' x y) Q c:=by
 obtain⟨i,o,us,n,g,g1,_,l,a⟩:=f;obtain⟨j,o2,o,n,i,g2,_,f,b⟩:=d;exact lO e g i g1 l g2 f λR d=>ul m 0 a b (by rw[<-Ee,<-Ee,Paired.length a,Paired.length b]) (d _ h)
def uo{c:List Value}{T:Value}(e:∀v∈c,∃f a o d n,Looks 'r' s.heap (typeOf f) T/\v=.ref a/\s.heap.get? a=some o/\o.cls=.type "tuple"/\o.data=.seq d n/\d[0]?=some f):∃b,KatTups s.heap c b/\b.length=c.length/\∀v∈b,Looks 'r' s.heap (typeOf v) T:=by
 induction c with
 | nil=>exact{[],trivial,rfl,λ_ m=>nomatch m}
 | cons v c g=>
   obtain⟨b,k,l,t⟩:=g λx m=>e x (.tail _ m)
   obtain⟨f,a,o,d,n,y,z⟩:=e v (.head _);exact{f::b,{⟨a,o,d,n,z⟩,k},congrArg (· + 1) l,λx m=>(AE.mp m).elim (λe=>e▸y) (t x)}
def lP{b:List Value}{T:Value}(g:2<=b.length)(d:(T == T)=true){Q:SortKind->Shared->Prop}(h:Q (tuples' (T != .type "tuple")) s)(e:∀v∈b,∃f a o c n,Looks 'r' s.heap (typeOf f) T/\v=.ref a/\s.heap.get? a=some o/\o.cls=.type "tuple"/\o.data=.seq c n/\c[0]?=some f):wpAny 'r' A (keyKind' b.toArray) Q E s:=by
 obtain⟨a,k,l,t⟩:=uo e;exact kat_kind k (l▸Nat.lt_of_succ_lt g) t d h
def uq{e:SortSt}{x y:Keyed}{a b:Pt}{Q:Option Bool->SortSt->Prop}(d:kindOf e=tuples' true)(f:Bk s.heap x.1 a)(c:Bk s.heap y.1 b)(h:Q (some (lx a b)) e):wpS 'r' A E s (lt' x y) Q e:=by
 obtain⟨i,o,n,t,u,l,g1,_,i⟩:=f;obtain⟨j,o2,o,n,m,g,g2,_,f⟩:=c;refine lO d l g g1 i g2 f λR d=>kat_cons (wpAny_eqBool_int ?_)
 have h:=d _ h;by_cases c:a.1=b.1
 ·rw[show (a.1 == b.1)=true from aA c]
  refine kat_yes (kat_cons (wpAny_eqBool_int ?_));by_cases d:a.2=b.2
  ·rw[show (a.2 == b.2)=true from aA d]
   rw[show lx a b=false from cI.mpr λz=>z.elim (λz=>Int.lt_irrefl _ (c▸z)) λz=>Int.lt_irrefl _ (d▸z.2)] at h;exact kat_yes (kat_nil h)
  ·rw[show (a.2 == b.2)=false from ax d]
   rw[show lx a b=decide (a.2<b.2) from decide_eq_decide.mpr {λz=>z.elim (λz=>absurd (c▸z) (Int.lt_irrefl _)) (·.2),λz=>.inr ⟨c,z⟩}] at h;exact kat_no (sX h)
 ·rw[show (a.1 == b.1)=false from ax c]
  rw[show lx a b=decide (a.1<b.1) from decide_eq_decide.mpr {λz=>z.elim id λz=>absurd z.1 c,.inl}] at h;exact kat_no (oneLt_int h)
end
instance lxO:KeyOrd where
 α:=Pt
 blt:=lx
 irrefl:=hD
 trans:=λ_ _ _=>eC
 negTrans:=λ_ b _ h=>lB b h
 total:=λ_ _=>fx
def KW(prog:Program)(w:World):D1 prog w lxO where
 at_:=Bk
 ok:=λ_=>True
 dflt:=(0,0)
 fn:=Bk.fn
 keep:=λx k=>x.keep k
 knd:=tuples' true
 room:=λ_=>True
 kind:=λhv h2 h=>lP (T:=.type "int") h2 rfl h λv m=>by
  obtain⟨_,_,_,_,_,_,_,e,g,c,d⟩:=hv v m;exact{_,_,_,_,_,.now,e,g,c,d,rfl}
 cmp:=λ_ hk hx hy h=>uq hk hx hy h
instance stS(prog:Program)(w:World):D1 prog w stO where
 at_:=HH
 ok:=λl=>l≠[]
 dflt:=[]
 fn:=λ{h _ _ _} x y=>by
  obtain⟨a,o,i,n,e,g,_,d,p⟩:=x;obtain⟨a',o',i',n',e',g',_,d',p'⟩:=y;have eo:=Option.some.inj (g.symm.trans ((congrArg h.get? (Value.ref.inj (e.symm.trans e'))).trans g'));exact uh p ((Data.seq.inj (d.symm.trans ((congrArg Obj.data eo).trans d'))).1▸p')
 keep:=λ⟨a,o,i,n,e,g,c,d,p⟩ k=>{a,o,i,n,e,k _ _ (by rw[c];decide) g,c,d,ui k p}
 knd:=tuples' false
 room:=λA=>A.units<cLine
 kind:=λhv h2 h=>lP (T:=.type "tuple") h2 rfl h λv m=>by
  obtain⟨p,ne,_,_,⟨il⟩,_,e,g,c,d,pr⟩:=hv v m;cases pr with
  | nil=>exact absurd rfl ne
  | cons z _=>
    obtain⟨_,_,_,_,_,rfl,g2,c2,_⟩:=z;exact{_,_,_,_,_,c2▸(Looks.ld g2).andThen .now,e,g,c,d,rfl}
 cmp:=λhu hk hx hy h=>um hu hk hx hy h
end Ts
namespace L2
open PySem PySem.Spec PyProof PyProof.Rows Ts
def Gk(O:KeyOrd)(a:O.α):List O.α->List O.α
 | []=>[a]
 | b::l=>if O.blt b a=true then b::Gk O a l else a::b::l
def Bz(O:KeyOrd)(l:List O.α):List O.α:=l.foldr (Gk O) []
theorem hW(a:O.α):∀l,(Gk O a l).Perm (a::l)
 | []=>.refl _
 | b::l=>by
   unfold Gk;split
   ·exact((hW a l).cons b).trans (List.Perm.swap ..)
   ·exact .refl _
theorem bR:∀l,(Bz O l).Perm l
 | []=>.refl _
 | a::l=>(hW a (Bz O l)).trans ((bR l).cons a)
open H in
theorem lQ(a:O.α):∀l,l.Pairwise O.kle->(Gk O a l).Pairwise O.kle
 | [],_=>Ha _ _
 | b::l,h=>by
   have d:=DH.mp h;unfold Gk;split
   ·rename_i q
    refine DH.mpr {λx c=>?_,lQ a l d.2};rcases AE.mp ((hW a l).mem_iff.mp c) with rfl | c
    ·exact KeyOrd.kle_of_klt q
    ·exact d.1 x c
   ·rename_i q
    have q:O.kle a b:=KeyOrd.kle_of_not_klt q;refine DH.mpr {λx c=>?_,h};rcases AE.mp c with rfl | c
    ·exact q
    ·exact KeyOrd.kle_trans q (d.1 x c)
theorem eF:∀l,(Bz O l).Pairwise O.kle
 | []=>List.Pairwise.nil
 | a::l=>lQ a _ (eF l)
def hX{l m:List O.α}(p:m.Perm l)(u:m.Pairwise O.kle):m=Bz O l:=
 (p.trans (bR l).symm).eq_of_pairwise (λa b _ _ d c=>KeyOrd.kle_antisymm d c) u (eF l)
section
variable{prog:Program}{w:World}{A:Around}{E:Value->Shared->Prop}{s:Shared}{O:KeyOrd}{S:D1 prog w O}{T:String}{r d:Addr}{n:Nat}{P:Nat->Value->Prop}{OK:Heap->Prop}
def ur(J:∀a:Around,a.units<=A.units+4->S.room a)(K:PySem.W.KdlSrc prog w T r d n P OK)(f:A.handled=none)(e:OK s.heap)(N:n<128)(M:∀i v,P i v->∃p,(2<=n->S.ok p)/\S.at_ s.heap v p)(h:∀(p:Addr) (c i:Heap) (l m:Nat) (out a:Array Value),(∀b o,s.heap.get? b=some o->c.get? b=some o)->c.objs.size<=p->(∀b o,c.get? b=some o->i.get? b=some o)->i.get? p=some (seqObj "list" out m)->ItemsOf P a n->out.toList.Perm a.toList->out.toList.Pairwise (λx y=>∀p q,S.at_ s.heap x p->S.at_ s.heap y q->O.kle p q)->Q (.ref p) { s with heap:=i,toks:=l }) :
 wpAny 'r' A (call (.builtin "sorted") [.ref r]) Q E s:=by
 refine Calls.call_function_entry kind_sorted plain_sorted entry_sorted (args_sorted1 _) ?_;delta Builtin.«sorted»;refine Ac (m:=checkCount "sorted" 1 1 _) (Ao (Ac (PySem.W.kdu_collect (A:=A.in1) K f e (by rw[sizeLine_eq];omega) λi l a G c=>?_)));have u:a.toList.length=n:=by rw[Ee];exact c.1
 refine Ac (wpAny_newList ?_ (by rw[u,sizeLine_eq];omega));show wpAny _ _ _ _ _ { s with heap:=i.push (seqObj "list" a.toList.toArray 0),toks:=l };have o1:(i.push (seqObj "list" a.toList.toArray 0)).get? i.objs.size=some (seqObj "list" a.toList.toArray 0):=Be _ rfl;have B:∀b o,i.get? b=some o->(i.push (seqObj "list" a.toList.toArray 0)).get? b=some o:=λb o g=>AJ _ g
 generalize e:i.push (seqObj "list" a.toList.toArray 0)=H1 at o1 B ⊢;have f:∀v p,S.at_ s.heap v p->S.at_ H1 v p:=λv p z=>S.keep z λb o _ g=>B b o (G b o g)
 have C:∀v∈a.toList,∃p,(2<=n->S.ok p)/\S.at_ s.heap v p:=λv m=>by
  obtain⟨j,I,e⟩:=List.getElem_of_mem m;exact M j v (c.2 j v (by rw[<-Hf,AO I,e]))
 refine Ac (wpAny_holding (DX slot_list_sort {_,o1,rfl} entry_list_sort (lI (s:={ s with heap:=H1,toks:=l }) (J _ (by simp only[Around.in1_units];omega)) o1 (λv m=>(C v m).imp λp z=>{λl=>z.1 'o',f v p z.2}) (by rw[u];exact N) λout j l=>{_,rfl,Ao {_,rfl,?_}}) (args_list_sort _)));obtain⟨m,u⟩:=tR (out:=out) o1;refine h _ i _ _ m out a G (Ap _) (λb o g=>tT (λe=>?_) (B b o g)) u c j (l.imp λ{x y} z p q b a=>z p q (f _ _ b) (f _ _ a));exact absurd (Heap.lt_size g) (by rw[e];exact Dd _)
end
section
variable{X:Cx}{O:KeyOrd}{S:D1 X.prog X.w O}{VR:Hp->V->O.α->Prop}
def lR{A:List 'p'}{Y:St}{H:Hp}{s:Shared}(I:Ab X A Y H s)(h:∀(v:V) (u:Value) (p:O.α),Am v u->VR H v p->S.at_ s.heap u p){g:List V}{c:List Value}{f:List O.α}{a:Array Value}(i:Aq g c)(d:Paired (VR H) g f)(r:a.toList.Perm c)(C:a.toList.Pairwise λx y=>∀p q,S.at_ s.heap x p->S.at_ s.heap y q->O.kle p q):∃b,Aq b a.toList/\Paired (VR H) b (Bz O f)/\b.length=f.length:=by
 have m:∀{g:List V} {c:List Value} {f:List O.α},Aq g c->Paired (VR H) g f->∃b:List (V×O.α),Paired (λ(z:V×O.α) u=>Am z.1 u/\VR H z.1 z.2) b c/\b.map (·.2)=f:=by
  intro g c f i;induction i generalizing f with
  | nil=>intro d;cases d;exact{[],.nil,rfl}
  | cons l _ e=>
    intro d;cases d with
    | cons z d=>
      obtain⟨b,j,a⟩:=e d;exact{(_,_)::b,.cons ⟨l,z⟩ j,by rw[BI,a]}
 obtain⟨b,n,l⟩:=m i d;obtain⟨j,v,o⟩:=s5 r n;have B:∀{b:List (V×O.α)} {c:List Value},Paired (λ(z:V×O.α) u=>Am z.1 u/\VR H z.1 z.2) b c->Aq (b.map (·.1)) c/\Paired (VR H) (b.map (·.1)) (b.map (·.2)):=by
  intro b c z;induction z with
  | nil=>exact{.nil,.nil}
  | cons y _ e=>exact{.cons y.1 e.1,.cons y.2 e.2}
 have E:∀{b:List (V×O.α)} {c:List Value},Paired (λ(z:V×O.α) u=>Am z.1 u/\VR H z.1 z.2) b c->c.Pairwise (λx y=>∀p q,S.at_ s.heap x p->S.at_ s.heap y q->O.kle p q)->(b.map (·.2)).Pairwise O.kle:=by
  intro b c z;induction z with
  | nil=>intro _;exact List.Pairwise.nil
  | @cons a u b us y r e=>
    intro i;obtain⟨a,m⟩:=DH.mp i;rw[BI];refine DH.mpr {λp d=>?_,e m};obtain⟨b,n,rfl⟩:=BF.mp d;have:∃u'∈us,Am b.1 u'/\VR H b.1 b.2:=by
     clear e i a m d y;induction r with
     | nil=>cases n
     | cons b _ e=>
       rcases AE.mp n with r | r
       ·subst r;exact{_,'d',b}
       ·obtain⟨u',m,q⟩:=e r;exact{u',by simp[m],q}
    obtain⟨u',m,r',b⟩:=this;exact a u' m _ _ (h _ _ _ y.1 y.2) (h _ _ _ r' b)
 obtain⟨d,a⟩:=B o;have e:j.map (·.2)=Bz O f:=hX (by rw[<-l];exact v.map _) (E o C);exact{_,d,by rw[<-e];exact a,by rw[Ai,v.length_eq,<-l,Ai]}
abbrev IK(X:Cx)(S:D1 X.prog X.w O)(VR:Hp->V->O.α->Prop)(K:FG):List V->Hp->VK->Prop:=λxs H Q=>∃(a:Addr) (vs:List V) (ps:List O.α),xs=[.ref a]/\AY K H a vs/\Paired (VR H) vs ps/\ps.length<128/\(2<=ps.length->∀p∈ps,S.ok p)/\∀p vs',H p=none->Paired (VR H) vs' (Bz O ps)->Q (.ref p) (Ag H p (.lst vs'))
theorem hZ{α β:Type}{F:α->β->Prop}:∀{d:List α} {a:List β},Paired F d a->∀b∈d,∃c∈a,F b c
 | _,_,.nil,b,h=>by cases h
 | _,_,.cons x r,b,h=>by
   rcases AE.mp h with e | e
   ·subst e;exact{_,'d',x}
   ·obtain⟨c,m,z⟩:=hZ r b e;exact{c,by simp[m],z}
theorem h6:∀{a:List V} {us:List Value},Aq a us->∀u∈us,∃v∈a,Am v u
 | _,_,.nil,b,h=>by cases h
 | _,_,.cons x r,b,h=>by
   rcases AE.mp h with e | e
   ·subst e;exact{_,'d',x}
   ·obtain⟨c,m,z⟩:=h6 r b e;exact{c,by simp[m],z}
def lS(d:∀(j:List 'p') (s:Shared) (Y:St) (H:Hp) (v:V) (u:Value) (p:O.α),Ab X j Y H s->Am v u->VR H v p->S.at_ s.heap u p)(e:∀b:Around,b.units<=X.A.units+4->S.room b) :
 Ch X (.builtin "sorted") (IK X S VR X.K):=by
 intro j s Y H b us Q I r h;obtain⟨a,i,g,rfl,l,f,c,b,q⟩:=h;obtain⟨u,rfl,c⟩:=br r;cases c;obtain⟨i,g,h,n⟩:=I.list l;have m:=g.length;have c:=Paired.length f;refine uf (S:=S) e h.isList (λu m=>?_) 'o' λc x r=>?_
 ·obtain⟨v,mv,e⟩:=h6 g u m
  obtain⟨p,h,vr⟩:=hZ f v mv;exact{p,λl=>b 'o' p h,d _ _ _ _ _ _ _ I e vr}
 ·obtain⟨h,n,l,m⟩:=lR (S:=S) I (λv u p a b=>d _ _ _ _ v u p I a b) g f x r
  obtain⟨e,d⟩:=sortedAll_at s.heap i c;refine{.ref (s.heap.objs.size+1),_,I.laid (t':=s.toks) (a:=s.heap.objs.size+1) (o:=.lst h) (λb o e=>sortedAll_old e) (Fs _) ?_,rfl,q _ _ (I.hok.fresh (Fs _)) l};exact{by rw[m];exact BB (dD 'o'),c.toList,e,n,d}
end
abbrev Pr1(H:Hp)(v:V)(p:P2):Prop:=∃b,v=.ref b/\H b=some (.tup [.int p.1,.int p.2])
def lT(I:Ab X j Y H s)(c:H b=some (.tup [.int p.1,.int p.2])):Bk s.heap (.ref b) p:=by
 obtain⟨e,a,⟨o,g,h,n,d⟩,_⟩:=I.tuple (AS.of c);cases a with
 | cons f a=>cases a with
   | cons i a=>
     cases a;obtain⟨c,rfl⟩:=f;obtain⟨e,rfl⟩:=i;exact⟨b,o,n,c,e,rfl,g,h,d⟩
def ut(a:List P2):Bz lxO a=BV a:=s8 (bR (O:=lxO) a) ((eF (O:=lxO) a).imp λh=>sY h)
def yI:Ch X (.builtin "sorted") (λl H Q=>∃(a:Addr) (g:List V) (d:List P2),l=[.ref a]/\AY X.K H a g/\PrV H g d/\d.length<128/\∀p c,H p=none->PrV H c (BV d)->Q (.ref p) (Ag H p (.lst c))):=by
 intro j s Y H l us Q I r h;obtain⟨a,g,d,rfl,m,i,f,q⟩:=h;exact lS (S:=KW X.prog X.w) (VR:=Pr1) (λj s Y H v u p I r ⟨b,e,h⟩=>by subst e;cases r;exact lT I h) (λ_ _=>trivial) j s Y H _ us Q I r {a,g,d,rfl,m,i,f,λ_ _ _=>trivial,λp c i w=>q p c i (by rw[<-ut];exact w)}
instance StV(H:Hp)(v:V)(l:List P2):Prop:=∃b us,v=.ref b/\H b=some (.tup us)/\PrV H us l
theorem lU(I:Ab X f Y H s):∀{us:List V} {a:List Value} {l:List P2},Aq us a->PrV H us l->Paired (Bk s.heap) a l
 | _,_,_,.nil,.nil=>.nil
 | _,_,_,.cons r c,.cons z d=>by
   obtain⟨b,e,a⟩:=z;rw[e] at r;cases r;exact .cons (lT I a) (lU I c d)
def h7(c:List 'p')(s:Shared)(Y:St)(H:Hp)(v:V)(u:Value)(l:List P2)(I:Ab X c Y H s)(r:Am v u)(z:StV H v l):HH s.heap u l:=by
 obtain⟨b,us,e,h,a⟩:=z;rw[e] at r;cases r;obtain⟨i,e,⟨o,g,f,n,d⟩,_⟩:=I.tuple (AS.of h);exact{b,o,_,n,rfl,g,f,d,by simpa using lU I e a}
def yJ{k:Nat}(b:AT k X.A):Ch X (.builtin "sorted") (IK X (stS X.prog X.w) StV X.K):=
 lS (S:=stS X.prog X.w) h7 λa h=>by
  have:=b.units;show a.units<cLine;omega
def CS(l:List P2):List Al:=l.map λp=>.t [.inl p.1,.inl p.2]
theorem lV:∀{l:List P2} {c:List V},Paired (KIs H) (CS l) c->PrV H c l
 | [],_,.nil=>.nil
 | _::_,_,.cons a b=>.cons a (lV b)
def uu(h:C4 H b (CS l)):StV H (.ref b) l:=by
 obtain⟨a,e,p⟩:=h;exact{b,a,rfl,e,lV p}
abbrev IL(xs:List V)(H:Hp)(Q:VK):Prop:=∃(a:Addr) (kvs:List (List Al×V)) (ps:List (List P2)),xs=[.ref a]/\Rd H a (.dT kvs)/\kvs.map (·.1)=ps.map CS/\ps.length<128/\(2<=ps.length->∀p∈ps,p≠[])/\∀p vs',H p=none->Paired (StV H) vs' (Bz stO ps)->Q (.ref p) (Ag H p (.lst vs'))
def yK(C:X.calm=true){k:Nat}(E:AT k X.A):Ch X (.builtin "sorted") IL:=by
 intro N s Y H c us Q I r h;obtain⟨a,b,d,rfl,i,G,y,A,q⟩:=h;obtain⟨u,rfl,e⟩:=br r;cases e;obtain⟨z,J,c,f,o,es,n,g,m,e,v,j⟩:=cq I.hok i;have p:o=D8 es n:=by
  obtain⟨i,l,x,r⟩:=o;obtain⟨j,i,l⟩:=m;simp only at j i l e;subst j i l e;rfl
 subst p;have m:∀{b:List (List Al×V)} {c:List (List Al×Addr×Value)} {d:List (List P2)},KT H b c->b.map (·.1)=d.map CS->Aq (c.map λx=>V.ref x.2.1) (c.map λx=>Value.ref x.2.1)/\Paired (StV H) (c.map λx=>V.ref x.2.1) d:=by
  intro b c d f;induction f generalizing d with
  | nil=>
    intro e;cases d with
    | nil=>exact{.nil,.nil}
    | cons _ _=>cases e
  | @cons p x _ _ r _ B=>
    intro e;cases d with
    | nil=>cases e
    | cons l d=>
      rw[BI,BI] at e;injection e with j i
      obtain⟨l,z⟩:=B i;have b:C4 H x.2.1 p.1:=r.2.1;rw[j] at b;exact{.cons rfl l,.cons (uu b) z}
 obtain⟨B,l⟩:=m f G;have b:es.toList.map (·.key)=c.map λx=>Value.ref x.2.1:=by rw[v,Df];rfl
 have f:es.size=d.length:=by
  have r:=congrArg List.length b;rw[Ai,Ai,Ee] at r;rw[r,<-Paired.length l,Ai]
 refine ur (S:=stS X.prog X.w) (λf h=>by have:=E.units;show f.units<cLine;omega) (tQ J es n) (I.ok.hd C) g 'o' (λi v hI131=>?_) λp r f z n h i O C P J g E G=>?_
 ·obtain⟨e,f,j⟩:=hI131
  have m:v∈c.map λx=>Value.ref x.2.1:=by
   rw[<-b,j];exact BF.mpr {e,by rw[<-Hf] at f;exact Bq f,rfl}
  obtain⟨v',mv,j⟩:=h6 B v m;obtain⟨p,M,vr⟩:=hZ l v' mv;exact{p,λm=>A 'o' p M,h7 _ _ _ _ _ _ _ I j vr}
 ·have m:i.toList=c.map λx=>Value.ref x.2.1:=by
   rw[<-b];apply FJ;intro j;rw[AK,Hf,Hf];by_cases b:j<es.size
   ·obtain⟨e,f,c⟩:=g.2 j _ (Fe (by rw[g.1];exact b))
    rw[Fe (by rw[g.1];exact b),c,f];rfl
   ·rw[Array.getElem?_eq_none (by rw[g.1];omega),Array.getElem?_eq_none 'o'];rfl
  rw[m] at E;obtain⟨c,f,g,e⟩:=lR (S:=stS X.prog X.w) I (λv u p a b=>h7 _ _ _ _ v u p I a b) B l E G;have I1:Ab X N Y H { s with heap:=r,toks:=z }:=I.kept O;exact{.ref p,_,I1.laid (t':=z) (a:=p) (o:=.lst c) P C {by rw[e];exact BB (dD (show d.length<=1000 from BB (Nat.lt_trans y 'z'))),h.toList,n,f,J},rfl,q _ _ (I1.hok.fresh C) g}
abbrev Ad(l:List P2):D:=.tup (l.map Dp)
def Cy:List D->Option (List (List P2))
 | []=>some []
 | .tup m::l=>(CM m).bind λp=>(Cy l).map λr=>p::r
 | _=>none
theorem eG:∀a:List (List P2),Cy (a.map Ad)=some a
 | []=>rfl
 | p::a=>by
   show (CM (p.map Dp)).bind (λq=>(Cy (a.map Ad)).map λr=>q::r)=_;rw[hH,eG a];rfl
theorem lW{K:FG}{A:Addr->Prop}{H:Hp}:∀{l:List D} {c:List V} {a:List (List P2)},Cy l=some a->aa K A H l c->Paired (StV H) c a
 | [],c,a,e,h=>by cases e;rw[aa.nil.mp h];exact .nil
 | d::l,c,a,e,h=>by
   obtain⟨v,r,i,j,f⟩:=aa.cons.mp h;cases d with
   | tup m=>
     have e:(CM m).bind (λp=>(Cy l).map λr=>p::r)=some a:=e;cases q:CM m with
     | none=>rw[q] at e;cases e
     | some p=>
       rw[q] at e;cases a:Cy l with
       | none=>rw[a] at e;cases e
       | some b=>
         rw[a] at e;cases e;obtain⟨b,d,h,l,g⟩:=Is.tup_iff.mp j;rw[i];exact .cons {b,d,h,l,hJ q g} (lW a f)
   | _=>cases e
theorem ic{K:FG}{A:Addr->Prop}{H:Hp}:∀{b:List (List P2)} {a:List V},Paired (StV H) a b->aa K A H (b.map Ad) a
 | _,_,.nil=>aa.nil.mpr rfl
 | _,_,.cons h t=>aa.cons.mpr {_,_,rfl,by
   obtain⟨b,us,e,c,d⟩:=h;rw[e];exact Is.tup c (hM d),ic t}
theorem ie:∀a:List (List P2),D.immL (a.map Ad)=true
 | []=>rfl
 | p::a=>Gz.mpr {hO p,ie a}
instance okS(ps:List (List P2)):Bool:=decide (ps.length<128)&&(decide (ps.length<2)||ps.all λp=>!p.isEmpty)
def lX(h:okS ps=true):ps.length<128/\(2<=ps.length->∀p∈ps,p≠[]):=by
 delta okS at h;simp only[Bool.and_eq_true,Bool.or_eq_true,decide_eq_true_eq,List.all_eq_true] at h;refine{h.1,λl p m z=>?_};rcases h.2 with q | q
 ·omega
 ·have:=q p m
  rw[z] at this;cases this
def Fz:List D->Option D
 | [.lst l]=>(Cy l).bind λps=>if okS ps=true then some (.lst ((Bz stO ps).map Ad)) else none
 | _=>none
section
variable{X:Cx}{S:Type}{W:Wd S}{c:Dx W}{K:FG}{A:Addr->Prop}{H:Hp}{A5:List 'p'}{Y:St}{s:Shared}
open H in
def yL{K:FG}(a:c.K=K):Ck c (IK X (stS X.prog X.w) StV K) Fz:=by
 subst a;intro l f H b d Q g z e q;delta Fz at e;split at e
 ·rename_i m
  cases f:Cy m with
  | none=>rw[f] at e;cases e
  | some b=>
    rw[f] at e;have e:(if okS b=true then some (D.lst ((Bz stO b).map Ad)) else none)=some d:=e;split at e
    ·rename_i a
     cases e;obtain⟨o1,o2⟩:=lX a;obtain⟨v,r,d,m,i⟩:=aa.cons.mp z;obtain⟨a,us,h,_,l,j⟩:=Is.lst_iff.mp m;rw[aa.nil.mp i,h] at d;exact{a,us,b,d,.of l,lW f j,o1,o2,λp b a w=>q _ _ (Ah.laid a) (aL g a) (AB.lst g a (λ_ n=>n) (ie _) (ic (A:=λb=>¬W.mv b) w))}
    ·cases e
 ·cases e
open H in
theorem lY:∀{k:List Al} {l:List P2},CM (k.map Ep)=some l->k=CS l
 | [],l,e=>by cases e;rfl
 | a::k,l,e=>by
   rw[BI] at e;unfold CM at e;split at e
   ·rename_i b;cases b
   ·rename_i x y m b
    injection b with d he2
    subst he2;cases q:CM (k.map Ep) with
    | none=>rw[q] at e;cases e
    | some b=>
      rw[q] at e;cases e;rw[lY q];cases a with
      | inl i=>cases d
      | inr i=>cases d
      | t n=>
        have d:D.tup (n.map Ct)=.tup [.int x,.int y]:=d;injection d with d
        match n,d with
        | [a,b],d=>
          simp only[BI,List.map_nil,List.cons.injEq,and_true] at d;obtain⟨f,g⟩:=d;cases a<;>cases b<;>simp[Ct] at f g;subst f g;rfl
        | [],d=>simp at d
        | [_],d=>simp at d
        | _::_::_::_,d=>simp at d
   ·cases e
theorem lZ:∀{a:List (List Al)} {b:List (List P2)},Cy (a.map AD)=some b->a=b.map CS
 | [],b,e=>by cases e;rfl
 | k::a,b,e=>by
   have e:(CM (k.map Ep)).bind (λp=>(Cy (a.map AD)).map λr=>p::r)=some b:=e;cases q:CM (k.map Ep) with
   | none=>rw[q] at e;cases e
   | some p=>
     rw[q] at e;cases b:Cy (a.map AD) with
     | none=>rw[b] at e;cases e
     | some a=>
       rw[b] at e;cases e;rw[BI,lY q,lZ b]
def HI:List D->Option D
 | [.dct (.non::ks) _]=>(Cy ks).bind λps=>if okS ps=true then some (.lst ((Bz stO ps).map Ad)) else none
 | [.fd ks _]=>(Cy ks).bind λps=>if okS ps=true then some (.lst ((Bz stO ps).map Ad)) else none
 | _=>none
open H in
def yM:Ck c IL HI:=by
 intro l g H a d Q i z e q;have fin:∀(a:Addr) (f:List (List Al)) (us:List V),g=[.ref a]->f.length=us.length->Rd H a (.dT (f.zip us))->(Cy (f.map AD)).bind (λb=>if okS b=true then some (D.lst ((Bz stO b).map Ad)) else none)=some d->IL g H Q:=λa f us l g j e=>by
  cases h:Cy (f.map AD) with
  | none=>rw[h] at e;cases e
  | some b=>
    rw[h] at e;have e:(if okS b=true then some (D.lst ((Bz stO b).map Ad)) else none)=some d:=e;split at e
    ·rename_i d
     cases e;obtain⟨o1,o2⟩:=lX d;exact{a,f.zip us,b,l,j,by rw[List.map_fst_zip (BQ g),lZ h],o1,o2,λp d b w=>q _ _ (Ah.laid b) (aL i b) (AB.lst i b (λ_ n=>n) (ie _) (ic (A:=λb=>¬W.mv b) w))}
    ·cases e
 delta HI at e;split at e
 ·rename_i o m
  obtain⟨v,r,b,l,j⟩:=aa.cons.mp z;obtain⟨a,us,d,n,i,h⟩:=Is.dct_iff.mp l;rw[aa.nil.mp j,d] at b;rcases h with⟨p,n,_,_⟩ | ⟨f,q,g,h⟩
  ·cases p with
   | nil=>cases n
   | cons z r=>
     have:D.non=Ct z:=(List.cons.inj n).1;cases z<;>cases this
  ·have n:=(List.cons.inj q).2
   subst n;exact fin a f us b g (.inl h) e
 ·rename_i o m
  obtain⟨v,r,b,l,j⟩:=aa.cons.mp z;obtain⟨a,o,us,f,d,m,g,h,i⟩:=Is.fd_iff.mp l;rw[aa.nil.mp j,d] at b;subst m;exact fin a f us b g (.inr ⟨o,h⟩) e
 ·cases e
def IM(l:List D):Option D:=if l.length<=sizeLine then some (.tup l) else none
end
section
variable{X:Cx}{S:Type}{W:Wd S}{c:Dx W}
def JT(c:Dx W)(b:Addr):Prop:=¬W.mv b/\c.H0 b=none
instance tN(c:Dx W)(f:Fn S):TE:=λY H Q=>∃Z st,Ax c H Y Z/\W.ok st H/\
 Aa (f Z st) (λd st'=>∀v H',Ah W H H'->W.ok st' H'->Is c.K (JT c) H' d v->Q v H') λx st'=>∀H',Ah W H H'->W.ok st' H'->c.Ex x st' H'
instance DN(X:Cx){S:Type}{W:Wd S}(c:Dx W)(e:Expr)(f:Fn S):Prop:=PE X e (tN c f)
instance tNs(c:Dx W)(f:Ba S):TA:=λY H Q=>∃Z st,Ax c H Y Z/\W.ok st H/\
 Aa (f Z st) (λl st'=>∀vs H',Ah W H H'->W.ok st' H'->aa c.K (JT c) H' l vs->Q vs H') λx st'=>∀H',Ah W H H'->W.ok st' H'->c.Ex x st' H'
instance DNs(X:Cx){S:Type}{W:Wd S}(c:Dx W)(es:List Expr)(f:Ba S):Prop:=PA X es (tNs c f)
def yN:DNs X c [] (Gb S):=bt.imp λY H Q ⟨Z,b,R,a,w⟩=>w [] H Ah.refl a (aa.nil.mpr rfl)
def yO(h:DN X c e f)(b:DNs X c es r)(a:autoParam 's' uR):DNs X c (e::es) (Cu S f r):=
 (aX h b a).imp λY H Q hI57=>by
  obtain⟨Z,a,R,b,w⟩:=hI57;refine{Z,a,R,b,ak (ae.mp w) (λd a q v H1 e f z=>?_) λx a q=>q};refine{Z,a,R.ext b e,f,ak (ae.mp q) (λl b q g H2 d a h=>?_) λx b q H2 d a=>q H2 (e.trans d) a};exact q (v::g) H2 (e.trans d) a (aa.cons.mpr {v,g,rfl,z.ext d f (λb n=>n.1),h})
def JU(S:Type)(i:Nat):Fn S:=λZ st=>Au (own? Z i) st
open H in
def yP{i:Nat}{x:Str}(h:PE X (.Name x p) (B1 i)):DN X c (.Name x p) (JU S i):=h.imp λY H Q hI58=>by
 obtain⟨Z,a,R,h,w⟩:=hI58;obtain⟨d,e,q⟩:=au.mp w;delta own? at e;cases a:Z[i]? with
 | none=>rw[a] at e;cases e
 | some s=>
   rw[a] at e;have z:=R.slot i s a;cases s with
   | no=>cases e
   | hnd=>cases e
   | bor d'=>
     have e:(if d'.imm=true then some d' else none)=some d:=e;split at e
     ·rename_i m
      cases e;obtain⟨v,g,a⟩:=z;exact{v,bb g,q v H Ah.refl h (Is.ofImm m a)}
     ·cases e
   | own d'=>
     have e:(if d'.flat=true then some d' else none)=some d:=e;split at e
     ·rename_i m
      cases e;obtain⟨a,g,n,f,t⟩:=z;have i:Is c.K 'w' H d (.ref a):=(t.mono (A':=λb=>¬W.mv b) {λ_ _ z _=>z,λb o a z=>⟨a.1,z⟩} λo z=>z).isTop n.1;exact{_,bb g,q _ H Ah.refl h (gp i m ⟨n.1,f⟩)}
     ·cases e
open H in
def yQ{x1}(h:DNs X c es f):DN X c (.Tuple es x1 pos) (fA S IM f):=(iX h).imp λY H Q hI59=>by
 obtain⟨Z,a,R,b,w⟩:=hI59;refine{Z,a,R,b,ak (ae.mp w) (λl b q d H1 e a z=>?_) λx b q=>q};obtain⟨d,f,q⟩:=au.mp q;delta IM at f;split at f
 ·rename_i h
  cases f;exact{by rw[<-z.length];exact h,λp d=>q _ _ (e.trans (Ah.laid d)) (aL a d) (Is.tup aw (z.ext (Ah.laid d) a λb n=>n.1))}
 ·cases f
def JV(S:Type)(f:Fn S):Ay S:=λZ st=>(f Z st).bind λd st1=>.ok (.rt d) st1
def yR(h:DN X c e f):DS X c (.Return (some e) pos) (JV S f):=
 (cT h).imp λD Y H ⟨Z,a,R,b,w⟩=>{Z,a,R,b,ak (ae.mp w) (λd b q v H1 e a z=>q v H1 (e.f0 R) a z) λx b q H1 e a=>q H1 (e.f0 R) a}
section
variable{Q:D->S->Prop}{QF:Fl->S->Prop}{E:AG->S->Prop}{Z:Ae}{st:S}{f:Fn S}{i:Nat}
def l3:Aa (JU S i Z st) Q E↔∃d,own? Z i=some d/\Q d st:=au
def l4:Aa (JV S f Z st) QF E↔Aa (f Z st) (λd a=>QF (.rt d) a) E:=ae
end
end
def Qh(F:List Value->Prop):List Str->List Value->Prop
 | [],v=>F v
 | _::p,v=>∀x,Qh F p (v++[x])
theorem Qh.of{F}:∀{p v u},Qh F p v->u.length=p.length->F (v++u)
 | [],v,[],h,_=>by rw[Cp];exact h
 | _::_,v,u::us,h,e=>by have:=Qh.of (h u) (Nat.succ.inj e);rwa [BH] at this
instance At(K:FG)(x:Str)(st:Stmt):Prop:=∃f fd,nsIn K mainGlobals x=some (some (.ref f))/\CF K x x st f fd
def HJ(x:Str)(st:Stmt)(ps:List Str):Prop:=∀(kV doc pm:Value) (an:Option Addr) (cdv ct:Value),Qh (λus=>bindArgs (fnOf x x (FN st) (B9 st) (AM st) .none kV doc pm an cdv ct) {us,[]}=pure (ps.zip us)) ps []
section
variable{K:FG}{h:Heap}{mg:Str->Option Value}{x:Str}{st:Stmt}{N ps:List Str}{k j:Nat}{P:Program}{w:World}{base:Heap}{sp:Sp}
def Cv.up(C:Cv P w K mg base k x ps sp)(e:autoParam (k<=j) uD):Cv P w K mg base j x ps sp:=by
 obtain⟨f,g,a,b,c,d⟩:=C.ex;exact{f,g,a,b,c,d.mono e}
def aM(P:Program)(w:World)(base:Heap)(X:K.In h)(G:h.Ns mainGlobals mg){B:Ay Unit}(a:At K x st)(S:C5 N ps (AM st))(g:∀(f:Addr) (c:Value) (A:Around) (b:List Env) (s:Shared) (H:Hp) (E:XK),AT k (A.deeper (envOfC x (AM st) s.heap.objs.size f c))->Ce (CI CX0 P w K mg base N x (AM st) f c A b s H E).nox (D0 K H) (B9 st) B)(e:autoParam (HJ x st ps) Nd._auto_1) :
 Cv P w K mg base (k+1) x ps (sp0 K (BC N.length ps.length B)):=by
 obtain⟨f,d,n,F⟩:=a;exact{f,d,mg_of X G n,F.kp,F.binds λa b c d g i us=>Qh.of (e a b c d g i),CF.d0 F S λc A b s H E a=>g f c A b s H E a}
def dg{b:Type}{W:Wd b}(P:Program)(w:World)(base:Heap)(X:K.In h)(G:h.Ns mainGlobals mg){B:Ay b}(a:At K x st)(S:C5 N ps (AM st))(g:∀(f:Addr) (c:Value) (A:Around) (b:List Env) (s:Shared) (H:Hp) (E:XK),AT k (A.deeper (envOfC x (AM st) s.heap.objs.size f c))->Ce (CI CX0 P w K mg base N x (AM st) f c A b s H E).nox (DL W K H) (B9 st) B)(e:autoParam (HJ x st ps) Nd._auto_1) :
 Cv P w K mg base (k+1) x ps (spS W K (D5 N.length ps.length B)):=by
 obtain⟨f,d,n,F⟩:=a;exact{f,d,mg_of X G n,F.kp,F.binds λa b c d g i us=>Qh.of (e a b c d g i),CF.dS F S λc A b s H E a=>g f c A b s H E a}
def ig(P:Program)(w:World)(base:Heap)(X:K.In h)(G:h.Ns mainGlobals mg)(a:At K x st)(e:∀f c,CF K x x st f c->Cs P w K mg base CX0 k f c ps sp)(d:autoParam (HJ x st ps) Nd._auto_1):Cv P w K mg base k x ps sp:=by
 obtain⟨f,c,n,F⟩:=a;exact{f,c,mg_of X G n,F.kp,F.binds λa b c e g i us=>Qh.of (d a b c e g i),e f c F}
def uv{b:Type}{W:Wd b}(P:Program)(w:World)(base:Heap)(X:K.In h)(G:h.Ns mainGlobals mg){B:Ay b}(a:At K x st)(S:C5 N ps (AM st))(g:∀(f:Addr) (c:Value) (A:Around) (b:List Env) (s:Shared) (H:Hp) (E:XK),AT k (A.deeper (envOfC x (AM st) s.heap.objs.size f c))->Ce (CI CX0 P w K mg base N x (AM st) f c A b s H E).nox (DL W K H) (B9 st) B)(e:autoParam (HJ x st ps) Nd._auto_1) :
 Cv P w K mg base (k+1) x ps (spL W K (FT N.length ps.length B)):=by
 obtain⟨f,d,n,F⟩:=a;exact{f,d,mg_of X G n,F.kp,F.binds λa b c d g i us=>Qh.of (e a b c d g i),CF.dL F S λc A b s H E a=>g f c A b s H E a}
end
open PySem PySem.Spec PyProof PyProof.Rows
open PySem.SeqAt
section
variable{X:Cx}{S:Type}{W:Wd S}{c:Dx W}
def JW:V->List V->Hp->VK->Prop:=λx vs H Q=>∃l b o xs zs,x=.ref l/\vs=[.ref b]/\H l=some (.lst xs)/\H b=some (.frz o (.lst zs))/\xs.length+zs.length<=sizeLine/\Q .non (Ag H l (.lst (xs++zs)))
def yS:MtM X "list.extend" JW:=by
 intro a s Y H x b v us Q I a e h;obtain⟨l,b,o,g,f,rfl,rfl,i,p,d,q⟩:=h;cases a;obtain⟨u,rfl,f⟩:=e.one;cases f;obtain⟨z,d,n,r,a,e⟩:=I.lstM i;obtain⟨_,f,a,m,h,j⟩:=I.hok b _ p;have f:=h.length;have g:d.toArray.size+a.toArray.size<=sizeLine:=by rw[AX,AX];omega
 have f:¬(!d.toArray.isEmpty&&Builtin.List.listTooLong (d.toArray.size+a.toArray.size))=true:=by
  rw[gg g,Bool.and_false];exact BP
 refine call_meets F.slot_list_extend {_,e,rfl} F.entry_list_extend (F.args_list_extend_2 _ _)
  (AutoSeq1.list_extend_list_list_0 l d.toArray n b a.toArray m f (by rw[AX];omega) 'o') {e,j,?_}
 refine{.non,_,I.lset (its':=d++a) i e 'd' (r.append h) ?_,rfl,q};rw[A7];omega
def JX(l:List D)(d:D):Option (List D):=match d with
 | .fl m=>if D.immL m=true/\l.length+m.length<=sizeLine then some (l++m) else none
 | _=>none
def yT:MtD c JW JX:=by
 intro l d f a n v H Q e g z i q;cases d with
 | fl m=>
   delta JX at e;by_cases h:D.immL m=true/\l.length+m.length<=sizeLine
   ·have e:(if D.immL m=true/\l.length+m.length<=sizeLine then some (l++m) else none)=some f:=e
    rw[if_pos h] at e;cases e;obtain⟨b,o,us,p,j,d⟩:=Is.fl_iff.mp i;subst p;exact{a,b,o,n,us,rfl,rfl,g,j,by rw[<-z.length,<-d.length];exact h.2,q _ λn=>{bI n h.1,z.append d}}
   ·have e:(if D.immL m=true/\l.length+m.length<=sizeLine then some (l++m) else none)=some f:=e
    rw[if_neg h] at e;cases e
 | _=>cases e
def JY(K:FG):R2:=λx y H Q=>∃(A:Addr->Prop) (d:D) (l:List D) (b:Bool),Is K A H d x/\Is K A H (.fl l) y/\D.depL l<=30/\By d l=some b/\Q (.bl b) H
def yU{k:Nat}(j:AT k X.A):A8 X (compareOp .In) (JY X.K):=by
 intro a s Y H x y v u Q I g n h;obtain⟨A,d,l,b,f,p,m,e,q⟩:=h;have i:X.A.in1.units+30<cLine:=by rw[Around.in1_units];have:=j.units;omega
 obtain⟨a,o,l,d,h,j⟩:=Is.fl_iff.mp p;subst d;cases n;obtain⟨l,a,p,_⟩:=I.list (.inl (.inr ⟨o,h⟩));obtain⟨g1,g2⟩:=dV I m i e j a f g;exact in_listAt _ p.isList g1 {.bl b,H,I,by rw[g2];rfl,q}
def JZ(a:D):D->Option D
 | .fl l=>if D.depL l<=30 then (By a l).map .bl else none
 | _=>none
def yV{K:FG}(a:c.K=K):Bx c (JY K) JZ:=by
 subst a;intro f b g e H h d Q j i g e q;cases b with
 | fl l=>
   have e:(if D.depL l<=30 then (By f l).map D.bl else none)=some d:=e;by_cases a:D.depL l<=30
   ·rw[if_pos a] at e
    obtain⟨b,h,rfl⟩:=Option.map_eq_some_iff.mp e;exact{_,f,l,b,i,g,a,h,q _ H Ah.refl j bh}
   ·rw[if_neg a] at e;cases e
 | _=>cases e
end
end L2
section
open L2
local macro_rules
 | `(tactic| simp?! [$ls,*])=>do
   let x:=("wp_ok wp_bad wp_some wp_none wp_sNil wp_sSet wp_sSetB wp_sAsg wp_sPar wp_sIf wp_sRet wp_sRetV wp_sDrop wp_sMt wp_sBad wp_sAug wp_fC wp_fVk wp_f2 wp_fA wp_aNil wp_aCons wp_fCall wp_fCallS wp_fAndV wp_fOrV wp_fNotV wp_fIfE wp_fNeg wp_fCut wp_pNo wp_pSo wp_iSeq wp_iArgs wp_fComp wp_fB wp_fAnd wp_fOr wp_fNot wp_fTrue wp_sPar3 wp_sItem wp_sDPut wp_fChain wp_fDisp wp_sTab2 wp_fGet wp_sFor wp_fP wp_aP wp_tP own? frz frz1 Bu gN gT CG EI D.seq? D.immL bJ bK bL bM flat_bl bN bO ag bn aE bo ao BY BO CH g0 gS s0 sS lC lN rd putN put im kp vr cn o2 cs nl o1 ti tb boS dbb rl0_ rl1_ rl2_ rl3_ rl4_ rl5_ rl6_ rl7_ rl8_ rl9_".splitOn " ").toArray.map λn=>Lean.mkIdent n.toName
   `(tactic| try simp only[$[$x:term],*,EV_,Nat.reduceAdd,Nat.reduceLT,Nat.reduceLeDiff,Nat.reduceSub,reduceIte,$ls,*])
local macro_rules
 | `(tactic| simp_all!)=>do
   let a:=Lean.mkIdent `hN_
   `(tactic| ((try with_reducible refine $a _ _ ?_);with_reducible refine tw fun $(Lean.mkIdent `P_) $a $(Lean.mkIdent `hR_) $(Lean.mkIdent `hB_) $(Lean.mkIdent `hC_)=>?_))
 | `(tactic| simp!)=>`(tactic| simp! [wp_ok])
 | `(tactic| simp! [$ls,*])=>do
   let a:=Lean.mkIdent `hN_
   `(tactic| ((try with_reducible refine $a _ _ ?_);simp?! [$ls,*];(repeat (first | with_reducible refine $a _ _ ?_ | with_reducible refine $(Lean.mkIdent `hR_) _ _ ?_ | with_reducible refine $(Lean.mkIdent `hB_) _ _ ?_ | with_reducible refine $(Lean.mkIdent `hC_) _ _ ?_));simp?! [$ls,*]))
namespace K20
open L2
def Em(i:Nat):Stmt:=PySem.Challenge.pw_slidehall_k20_come_to.main.body.getD i (.Pass {0,0,0,0})
structure Cst(K:FG)(mg:Str->Option Value):Prop where
 ok:True
 WALL:∃t,mg "WALL" = some (.int (-1) t)
 STRONG:∃t,mg "STRONG" = some (.int (1) t)
 DULL:∃t,mg "DULL" = some (.int (-1) t)
 STEPS:∃a0,mg "STEPS" = some (.ref a0)/\IA K a0 [(1,0),(0,1),(-1,0),(0,-1)]
 MOST_STANDS:∃t,mg "MOST_STANDS" = some (.int (2000) t)
abbrev J1:Stmt:=Em 27
abbrev KY:List Str:=["_law_script","_law_cells"]
def ij:C5 KY ["_law_script"] (AM J1):=by and_intros
abbrev J2:Stmt:=Em 28
abbrev KZ:List Str:=["_law_state","_law_many","_law_turn","_law_place","_law_cell","_law_digit","_law_mixed"]
def cJ:C5 KZ ["_law_state","_law_many"] (AM J2):=by and_intros
section
variable{P:Program}{w:World}{K:FG}{mg:Str->Option Value}{base:Heap}
def uw(F:CF K "_law_begin" "_law_begin" J1 f fd)(hm:Bn mg):Cs P w K mg base CX0 1 f fd ["_law_script"] (Iz K):=by
 refine F.ok ij (λvs H Q E h=>?_) (λcdv A T s H vs Q E hr h=>?_)
 ·obtain⟨a,ns,rfl,_⟩:=h;rfl
 ·obtain⟨a,ns,rfl,hS,G,q⟩:=h
  have y:Eo 'k' none (some 63)=ns.map V.int:=rg G;refine{_,bA (bF (i:=1) ij.nd rfl (Or.inl rfl) (i6 o8 (by rfl) hm.list boot_list (aX (jb jh (pv 0) i9 (ja aT)) bt))) (bA (fU (f6 (qC hr) (pv 1) (f8 bt) (iW _)) (dr (bF (i:=1) ij.nd rfl (Or.inl rfl) (f8 (aX aT bt)))) fS) (dr (cT (ju (eT bX (pv 1) (eT bX aT gn)) rfl rfl 'd' (by show 2<=15;decide))))),?_};refine{.ref a,rfl,63,rfl,a,_,rfl,hS,λp R=>?_};rw[y];refine{p,_,rfl,.inl (.of aw),λd c=>?_};have M:p≠d:=ay aw c;have N:Ci H (Ag (Ag H p (.lst 'k')) d (.lst 'k')):=λb o e=>by
   have C:b≠p:=ay e R;have b2:b≠d:=λz=>by subst z;rw[ah C,e] at c;cases c
   rw[ah b2,ah C];exact e
  refine{_,rfl,(by show 0<=sizeLine;decide),λv g=>?_};have B:d≠v:=ay aw g;refine{λ_=>True,.lst (ns.map D.int),.lst [],ns.isEmpty,?_,?_,?_,?_,?_}
  ·exact Is.lst trivial (by rw[ah B];exact aw) (kD ns)
  ·exact Is.lst trivial aw (aa.nil.mpr rfl)
  ·exact ri ns
  ·cases ns<;>rfl
  have fin:∀(H3:Hp) (n:Addr) (U:List Int),Ci H H3->H n=none->H3 n=some (.lst (U.map V.int))->U=Fa ns->
   Jx [(λ_ H Q=>Q (.str "cells") H,B1 1),(λ_ H Q=>Q (.str "turn") H,λ_ H Q=>Q (.int 0) H)] [some (.ref a),some (.ref n)] H3 Q:=λH3 n U O hn Y ex=>by
   intro r l;have W:n≠r:=ay Y l;refine{_,rfl,aw,[(Sum.inr "cells",.ref n),(Sum.inr "turn",.int 0)],rfl,(by show 2<=15;decide),?_};refine q r n _ (λb o e=>?_) ?_ ?_ ?_ ?_
   ·have Z:b≠r:=ay (O b o e) l
    rw[ah Z,ah Z];exact O b o e
   ·cases z:H r with
    | none=>rfl
    | some o=>rw[O r o z] at l;cases l
   ·exact hn
   ·rw[aw];exact congrArg (λz=>some (HO.dK z)) rj
   ·rw[ah W,ah W,Y,ex]
  have g2:H d=none:=by
   cases z:H d with
   | none=>rfl
   | some o=>
     have C:d≠p:=M.symm;rw[ah C,z] at c;cases c
  cases ns with
  | nil=>
    refine{_,rfl,cV ?_};refine{(by show 1<=sizeLine;decide),λx m=>?_};have J:Ci H (Ag (Ag (Ag (Ag H p (.lst [])) d (.lst [])) v (.lst [])) x (.lst [.int 7])):=λb o e=>by
     have j:=N b o e;have u:b≠v:=ay j g;have b4:b≠x:=λz=>by subst z;rw[ah u,j] at m;cases m
     rw[ah b4,ah u];exact j
    refine fin _ x [7] J ?_ aw rfl;cases z:H x with
    | none=>rfl
    | some o=>
      have j:=N x o z;have u:x≠v:=ay j g;rw[ah u,j] at m;cases m
  | cons I ns=>
    refine{_,rfl,dE ?_};have J:Ci H (Ag (Ag (Ag H p (.lst ((I::ns).map V.int))) d (.lst ((I::ns).map V.int))) v (.lst [])):=λb o e=>by
     have j:=N b o e;have u:b≠v:=ay j g;rw[ah u];exact j
    exact fin _ d (I::ns) J g2 (by rw[ah B];exact aw) rfl
open H in
def ux(F:CF K "_law_take" "_law_take" J2 f fd)(y:mg "len" = none)(hdm:mg "divmod" = none):Cs P w K mg base CX0 1 f fd ["_law_state","_law_many"] (spS (WdS p l) K CL):=by
 refine F.ok cJ (λvs H Q E h=>?_) (λcdv A Y s H vs Q E hr h=>?_)
 ·obtain⟨ds,us,a,rfl,i,ok,w⟩:=h
  delta CL at w;split at w
  ·rw[CD,<-i.length];rfl
  ·exact w.elim
 ·obtain⟨ds,us,a,rfl,i,ok,w⟩:=h
  delta CL at w;split at w
  ·rename_i u
   split at w
   ·rename_i W
    obtain⟨v,r,ev,i1,i2⟩:=aa.cons.mp i;rw[aa.nil.mp i2,Is.int_iff.mp i1] at ev;subst ev;have C:=pD hr;obtain⟨T,hl,x,B,h0⟩:=id ok;have I:p≠l:=ci T hl (by intro z;cases z);refine{_,bA (bF (i:=2) cJ.nd rfl (Or.inl rfl) (aR dw (dJ C (pv 0) bX (λ_ _=>rfl)) aT)) (bA (gk C (pv 0) bX (pv 2) rfl) (bA (bF (i:=3) cJ.nd rfl (Or.inl rfl) (aR cU (pv 2) (dC o7 (by rfl) y PySem.boot_len (aX (dJ C (pv 0) bX (λ_ _=>rfl)) bt)))) (bA (bF (i:=4) cJ.nd rfl (Or.inl rfl) (gf je (dJ C (pv 0) bX (λ_ _=>rfl)) (pv 3) (λ_ _=>rfl))) (bA (fU (f6 ox (pv 4) (aR oq aT aT) (iW _)) (bA (fY (dC oB (by rfl) hdm boot_divmod (aX (pv 4) (aX (pv 1) bt))) (fX (n:=2) rfl (du (n4 (dJ C (pv 0) bX (λ_ _=>rfl)) (pv 3) o3) (du (eO (i:=5) cJ.nd rfl (Or.inl rfl)) fW)))) (dr (cT (pv 5)))) fS) (bA (bF (i:=6) cJ.nd rfl (Or.inl rfl) (aR cU (aR cB (aR dw (aR dw (aR cU (pv 4) aT) (aR cB (aR cB (pv 2) (pv 2)) aT)) aT) aT) aT)) (bA (bF (i:=6) cJ.nd rfl (Or.inl rfl) (aR cU (aR cB (pv 6) (pv 6)) aT)) (dr (cT (aR cU (aR oo (aR cU (aR cB (aR dw (pv 6) (aR cB (pv 2) aT)) aT) aT) aT) (pv 1)))))))))),?_};have n0:(0:Int)<(a.1.length:Int):=by
     have:a.1.length≠0:=λz=>x (Hb.mp z)
     omega
    have Z:0<=(a.2+1) % (a.1.length:Int):=Int.emod_nonneg _ 'o';have pl1:(a.2+1) % (a.1.length:Int)<(a.1.length:Int):=Int.emod_lt_of_pos _ n0;have J:((Cf a:Nat):Int)=(a.2+1) % (a.1.length:Int):=Int.toNat_of_nonneg Z;have M:Cf a<a.1.length:=by omega
    have U:(a.1.map V.int)[Cf a]?=some (.int (a.1.getD (Cf a) 0)):=by
     rw[AK,AO M,Gu,AO M];rfl
    have c:∀o,(Ag H p o) l=some (.lst (a.1.map V.int)):=λo=>by rw[ah I.symm];exact hl
    have g0:BS H p (.str "turn") (some (.int a.2)):=by
     have q:=BS.k (k:=(Sum.inr "turn" : Aw)) T;rw[kC] at q;exact q
    have p0:EO H p (.str "turn") (.int (a.2+1)) (Ag H p (.dK (Ej l (a.2+1)))):=by
     have q:=EO.k (k:=(Sum.inr "turn" : Aw)) (v:=.int (a.2+1)) T (by show 2<sizeLine;decide);rw[rf] at q;exact q
    have gc:∀{H2:Hp},H2 p=some (.dK (Ej l (a.2+1)))->BS H2 p (.str "cells") (some (.ref l)):=λ{H2} e=>by
     have q:=BS.k (k:=(Sum.inr "cells" : Aw)) e;rw[re] at q;exact q
    have d:(((a.1.map V.int).length:Nat):Int)=(a.1.length:Int):=by rw[Ai]
    -- turn,its store,the place
    refine{_,rfl,p,.int a.2,rfl,g0,a.2,1,rfl,rfl,_,rfl,_,rfl,p,_,rfl,p0,?_};refine{_,rfl,_,rfl,p,.ref l,rfl,gc aw,l,_,rfl,.inl (AY.of (c _)),a.2+1,_,rfl,rfl,by rw[d];exact n0,?_}
    -- the cell
    refine{_,rfl,p,.ref l,rfl,gc aw,_,rfl,l,_,_,.int (a.1.getD (Cf a) 0),rfl,rfl,AY.of (c _),by rw[d,<-J];exact ge U,?_};refine{_,rfl,10,18,rfl,rfl,{'z','z','z'},a.1.getD (Cf a) 0,_,rfl,rfl,_,rfl,?_};have G:((10:Int) ^ (18:Int).toNat)=1000000000000000000:=by decide
    by_cases O:1000000000000000000<=a.1.getD (Cf a) 0
    ·rw[if_pos O] at w
     rw[G,aA O];refine cV ?_;refine{_,rfl,_,rfl,a.1.getD (Cf a) 0,u,rfl,⟨W.1,W.2.1⟩,λq N=>?_};have qp:p≠q:=ay aw N;have ql:l≠q:=ay (c _) N;refine{q,_,rfl,AS.of aw,rfl,_,_,rfl,_,rfl,p,.ref l,rfl,gc (by rw[ah qp];exact aw),_,rfl,l,_,_,Cf a,rfl,rfl,by rw[ah ql];exact c _,?_,_,_,rfl,rfl,?_}
     ·rw[d,<-J]
      delta CQ;rw[if_pos 'o',if_pos (by rw[Ai];omega)];simp
     ·refine{_,rfl,w _ _ (λb o m R=>?_) {?_,?_,?_,?_,?_} (Is.int_iff.mpr rfl)}
      ·have b1:b≠p:=λz=>R (.inl z)
       have b2:b≠l:=λz=>R (.inr z)
       have b3:b≠q:=λz=>by
        subst z;rw[ah b1,m] at N;cases N
       rw[ah b2,ah b3,ah b1];exact m
      ·rw[ah I,ah qp];exact aw
      ·rw[aw]
       congr 2;rw[List.map_set]
      ·intro z
       have:=congrArg List.length z;rw[EF] at this;exact x (Hb.mp this)
      ·show (a.1.set _ _).length<=63
       rw[EF];exact B
      ·show 0<=a.2+1
       omega
    ·rw[if_neg O] at w
     rw[G,ax O];refine dE ?_;have tb:-(2 ^ 64)<a.2+1/\a.2+1<2 ^ 64:={'o','o'};have g:∀(j:Int),-(2 ^ 64)<j/\j<2 ^ 64->∀i:Int,DR i j:=λj h i=>.inr h
     refine{_,rfl,a.1.getD (Cf a) 0,2147483629,rfl,rfl,(by show (0:Int)<2147483629;decide),_,rfl,_,rfl,_,_,rfl,rfl,.inl tb,_,_,rfl,rfl,g _ {'z','z'} _,_,_,rfl,rfl,_,_,rfl,rfl,_,_,rfl,rfl,g _ {'z','z'} _,_,_,rfl,rfl,(by show (0:Int)<2147483647;decide),?_};have m0:0<=Gg (a.1.getD (Cf a) 0) (a.2+1):=Int.emod_nonneg _ 'z';have m1:Gg (a.1.getD (Cf a) 0) (a.2+1)<2147483647:=Int.emod_lt_of_pos _ 'z';refine{_,rfl,_,rfl,Gg (a.1.getD (Cf a) 0) (a.2+1),Gg (a.1.getD (Cf a) 0) (a.2+1),rfl,rfl,.inl {'o','o'},_,_,rfl,rfl,(by show (0:Int)<2147483587;decide),?_};refine{_,rfl,_,rfl,a.2+1,104729,rfl,rfl,g _ {'z','z'} _,JN (a.1.getD (Cf a) 0) (a.2+1),_,rfl,rfl,_,39373,rfl,rfl,g _ {'z','z'} _,_,2147483629,rfl,rfl,(by show (0:Int)<2147483629;decide),_,64,rfl,rfl,{'z','z'},_,rfl,JO (a.1.getD (Cf a) 0) (a.2+1),u,rfl,rfl,W.1,?_};refine w _ _ (λb o m R=>?_) {aw,c _,x,B,by show 0<=a.2+1;omega} (Is.int_iff.mpr rfl);rw[ah (λz=>R (.inl z))];exact m
   ·exact w.elim
  ·exact w.elim
end
set_option hygiene false
open Lean in
def mT:="A0rfl #3 #4 #6 #5 #1 =90( A0ya #2 ? A0yg =900 #7 #0 =90$ =J0- #8 =ŧ0- =90+ X =Ƀ0Ŧ A0hr =Ⱦ0G =B06 @2.nd =C1- =90/ =K0F [1 Q00 =V0. =Ʌ0, =ǀ09 =90& =903 =ǲ1j A1pv [4 =90' A1gL_ =Ñ1Ñ #11 A1gU_ =90% =m0Ĕ =Ɇ0Ŧ =C1< =:0Ǵ A0none A1some !i =_1* =ʊ1# #9 #13 =K1F =Ñ1: - =c1R =ɡ08 =ɏ0# =m0ķ =ʦ08 =ʠ1ʡ =ɛ0, =c1: [3 =Ą04 [0 =ɩ0# A0yb =ɂ0# =]1ĸ A2yj =ɔ18 @5 =ǹ0ǖ =h0Ë =Ǐ1- A0hm.tuple A0boot_tuple =U0' =ʨ0# #12 =V0) =V05 =60Ǩ =ʩ1; =>0+ =Ƥ1ù =ɜ0# =Ñ1R =>3> A2ym =Ř2< =ƈ0ʶ =C0+ =Ǥ0T =ť0ƃ A2yt A0hm.list A0boot_list =Ú0$ =ɬ0G =ñ1* =ŧ04 =ɠ3# =Ŵ1( =90v =Ɂ0, =ʪ0G =ʿ1# =Ç1- =ǲ1ƚ =ʽ0Ƕ [2 A1wN =Æ0< =Q1% =ʈ0M =ğ0& A1qh =˃07 #10 =Ŵ10 A1qg =Ū2) =]1Ċ =Ǧ1Ǒ =Ş0A =ˋ1ˌ =ʥ0# =Ě2- =G0+ =Ƥ1ÿ =h0O =Ř2- =K2R =ː0^ =ɇ0# =Ǡ0Ŕ =ǹ0^ =ˇ08 =:0Ò =Ɖ0Ȁ =Ǖ0( =[06 =ˈ3Ŝ =Ǌ00 =ǵ1; =ˏ1Ĩ =q0W A0wM =Q0$ A0wT =Ƣ0ǔ =ł2ȁ =œ1- =u1f =ć0ć =à0Ĕ =Ɯ16 =ņ0ņ =Ƅ0i '_law_cell =ı0Ĳ A0yc =|0ç #14 =90ß A2wH =90X '_law_x '_law_y =Ţ3. =×0˄ @3 =˻07 =Ë0( =Ƣ0˭ =Ǜ0ç =ħ5ü =ʭ0ƛ =˳0a =ñ1i =ǜ0˞ Q21 !j =>03 =ð0m =B0d =ƕ0o =Ũ3ĸ A0wd A0xg =ŭ4ĉ A0wj =ʫ0# A0o8 =˰0# =ɨ1Ƕ =G0$ =60b =ƙ1j =ƥ1ȁ =ɳ0ɴ =ĳ00 =ǵ1ɫ =<0( =ɒ07 =ɪ0Ŧ @4 A0yd =˝0S A;xE =ƛ1* =ˬ0ȃ A2xP =˪0˫ =á0˯ =ŧ0ŧ =˛0ȃ =ƥ1ƥ =˘1Ź =˚0, =ą26 =ş0* =Û1Ś =ˮ0$ !N' !ixs =Ɵ0ʄ =ĵ1} A0hm.int A0boot_int =˟2? =m0˕ =ʲ0ǈ =ř0˧ A2yn =ɭ0Ķ =ř0˨ =ʬ0# =˥1# =Á0_ =×0Ĉ =Û1- .tuple A0hm.sorted A0boot_sorted =Á1- A2yl =Ɨ3) '_law_due =ʙ0ʚ A0hm.str A0boot_str A1gA_ .R =Ƅ0* =Ǘ0ĵ A0hm.enumerate =ǽ2. @6 =Ǿ00 =ƞ3ŋ 'many 'end 'n 'direction A0wc A2yC =ɟ18 A1yJ A1yL A2yD =ʯ0Ŕ =ˀ0# =ʾ0ǿ A0hm.min A0boot_min A@xN !k A2yw A<wP A0wg A0xo =ɮ3# A2yk A0hm.dict A0boot_dict #15 A1DW.dt =Ũ1þ A1g2_ A1wZ A0hm.any A0boot_any =ʗ0# =ǐ0Ǝ =ʂ0ʃ =Ɩ1Ǽ A1w3 '_law_wide '_law_high =ƈ0ǌ =Ď0ù =Ÿ0Ţ A1yz =Ɍ0U =ɲ0# =ʘ0# R2 A2yp =ʐ0ŉ =ɼ0ɽ .list '_law_other =Ɛ0+ R1 =Ĭ0g A2xy =Ɗ0Ǻ 'j 'x 'i 'y A0cs.WALL A4wX Q02 =˓0Ŧ 'other 'going A0xK A1xL A6xv Q13 A2fY A0hv A3n4 A0hk A0o3 A0hm.len A0PySem.boot_len A0cs.MOST_STANDS A3yy A2yO A1yP A2yi '_law_j '_law_i '_law_place Q04 =ă0ă '_law_state '_law_broad =ʮ1- =Ə0* =Q1( A2wt =ǋ1ʳ A0wb #16 A2yr A2yv A1w8 =Ď1Ď '_law_ahead =Ɩ1Ƒ =O0Ŭ =ʢ08 A1gT_ =ʸ3ʹ A0yI A1x7 =Ƥ1z =ˑ1˒ '_law_gap =ˉ0, .dict A1wv '_law_name '_law_found A0J3 =×0S .str =ˁ07 =ʍ07 A2wJ A2yq A1x6 A1xZ A1x3 @8 @9 =ʆ1ʇ '_law_kind_here =ɉ0U =60ƙ =ɍ16 A1wA =Ǳ2j A0PassesOwn.never =ť0Î =Ƿ0< =Ũ1} =ɿ07 =ɱ0U A0wG =Ɗ0ǧ =C1C Q05 A0wa A0xx A0qu A0v9 =ǉ0f A0xr A?xT !tbl !a0 A0cs.STEPS A8xU Q46 A0cs.DULL A0cs.STRONG A6xG A0v8 A5wE A0we A0xh A3xX A4yF A0xD A4yE A5yG A2wz A<yH A0D4 A1yR A1yQ A0yN A2yK A0yM A;xQ A0xO Q07 A2xJ A1xR A0xM A5xt A3xb A3ba A5xS A5xC A0xA A2xB A0yS A0yT A0oo A3xz A0hm.zip .int A2xc .bool A0hm.bool A0boot_bool A1xY A7jC A0jg A1yA A1yB A1yU A1yV A1ye A2wx =Ɯ0ȿ =ɀ1, A1Or.inl !ga A1wy =ƣ0Ʉ !gb Q18 A4wF =Ɉ2# A5wD =Ɋ2# =ɋ1; R3 A4gX_ =Ɏ3ï A7wo =ɐ6# =ɑ1P A4wR =ɓ2# A0ww =60ɕ =ǳ3ɖ A3wC =ɗ0ɘ =ə2, =ɚ1, A1w6 A5wS =ɝ3G =ɞ2# A6xH A1qC =ǳ26 A6wL =ɢ0ɣ =ɤ5, =ɥ4, =ɦ3, =ɧ2# A2xF !g Q19 A1wl A2wn A6xI A8wU =ɯ7# =ɰ5G A1Or.inr Q1: Q3; A3Ii.scope =ɵ2Ǆ !osc =ɶ1ɷ A1AM =ɸ1ɹ @0 =ɺ1ɻ !N A6jB =ɾ1P A4wI =ʀ2# =ʁ1# !n @1 =Ǹ4ƻ =ʅ3ƺ A0o7 A2yo A1xk =ǯ1ʉ A7wm =ʋ6# =ʌ1P A7wO =ʎ4# =ʏ1Ŋ A9xj =ʑ77 =ʒ4# A0hm.isinstance =ʓ3ʔ =ʕ2# A3gp_ A3gP_ A1gI_ =ʖ1# A0PySem.F.type_list_append =ǻ4ʛ A0PySem.F.slot_list_append =ʜ3ʝ A0wV =ʞ2ʟ A0pb A1w0 A3wK A0hm.range =ʣ1ʤ A1pD A4gY_ =ʧ3ï =Ǳ2ƚ A1wB A1xl A1w7 A2yu A2yx A1gB_ A1xq =Î2ʰ =ʱ2ǿ A1wp A2wu A1wq =ʴ1ʵ A0PySem.F.type_list_extend =ǻ4ʷ A0PySem.F.slot_list_extend A3wQ =ą0ʺ =ʻ2, =ʼ1, A1xp A2yf A1wf A3xa A2xi =˂1* '_law_one =Ũ1Ŗ A1w5 =˅0ˆ =Ǹ4ŝ =ƣ0á A0wW =ǘ2ˊ A0wk =Ù4s =ˍ3r =ˎ2ĩ =ǽ1} =Ʀ3* A0qt !gc =ƣ1Ǟ @7 =Ƿ4ż =˖3Ż =˗2ź =B0˔ =˙0Ǵ =Ǻ1Ȃ =e2T =˜1T A0cU =ę3p A0boot_all =ő3ˠ A0hm.all =ˡ2ˢ A1wY =ˣ1ˤ =Ȅ0Ȅ '_law_taken '_law_shuts A0xW =Ʀ1˩ A0xV =Ʀ1Ȃ =ǒ2Ǽ =Ǿ1% =˦0- A1xn A6xu =˱3P =˲27 A:xf =˴7* =˵6þ =˶5þ =˷4Ȁ =˸3Ǎ =˹2Ʈ =˺1P".splitOn " "|>.map String.toList|>.toArray
open Lean in
def mQ(a:Nat->Term):Nat->MacroM Term
  |0=>`(by decide)
  |1=>`(($(a 0), $(a 1)))
  |2=>`(-1)
  |3=>`(λhk hv=> $(a 0))
  |4=>`(by decide +kernel)
  |5=>`(_)
  |6=>`(⟨ $(a 0), $(a 1), $(a 2), $(a 3)⟩)
  |7=>`(by simp)
  |8=>`(λ_ _=> $(a 0))
  |9=>`(show (($(a 0)):List Str).Nodup by decide +kernel)
  |10=>`(λav cl C s H fp=> $(a 0))
  |_=>`(⟨ $(a 0), $(a 1), $(a 2)⟩)
open Lean in
def mA(I:Array Syntax):Nat->Char->List Syntax->Nat->MacroM (List Syntax×Nat)
  |0,_,s,n=>pure (s,n)
  |f+1,c,s,n=>do
   let c:=c.toNat
   let p (k:Nat)(t:Syntax):MacroM (List Syntax×Nat):=pure (t::s.drop k,n)
   let a (k:Nat):Term:=⟨s[k]!⟩
   let N (x:List Char):=mkIdent (String.ofList x).toName
   match mT[if c<127 then c-35 else c-100]! with
   |['=',a,i,b]=>do
    let i:=i.toNat-48
    let (r,n)←mA I f b (s.drop i) n
    mA I f a (s.take i++r) n
   |'A'::k::x=>
    let k:=k.toNat-48
    p k (Syntax.mkApp (N x) ((s.take k).map TSyntax.mk).toArray)
   |'.'::x=>p 0 (mkNode ``Parser.Term.dotIdent #[mkAtom ".",N x])
   |'@'::k::x=>p 0 (mkIdent (I[k.toNat-48]!.getId++(String.ofList (x.drop 1)).toName))
   |'#'::x=>p 0 (Syntax.mkNumLit (String.ofList x))
   |'\''::x=>p 0 (Syntax.mkStrLit (String.ofList x))
   |'!'::x=>p 1 (mkNode ``Parser.Term.namedArgument #[mkAtom "(",N x,mkAtom ":=",s[0]!,mkAtom ")"])
   |['[',k]=>do
    let k:=k.toNat-48
    let x:TSyntaxArray `term:=((s.take k).map TSyntax.mk).toArray
    p k (←`([$x,*]))
   |'?'::_=>do
    let h:=mkIdent (Name.mkSimple s!"q{n}")
    return ((←`(?$h:ident)).raw::s,n+1)
   |'X'::_=>do p 1 (←`(tactic|exact $(a 0)))
   |['R',k]=>do
    let mut t←`(tactic|refine' $(a 0))
    let mut i:=1
    for x in s[0]!.topDown do
     if x.isOfKind ``Parser.Term.syntheticHole then
      let h:Ident:=⟨x[1]⟩
      let y:TSyntax `tactic:=⟨s[i]!⟩
      t←`(tactic|($t:tactic;case $h:ident=>$y:tactic))
      i:=i+1
    p i t
   |['Q',k,j]=>do p (k.toNat-48) (←mQ a (j.toNat-48))
   |_=>Macro.throwUnsupported
local macro_rules
 |`(tactic|exact $s:str $x*)=>do
  let mut r:List Lean.Syntax×Nat:=([],0)
  for c in s.getString.toList.reverse do
   r←mA x 99 c r.1 r.2
  return r.1[0]!
abbrev m_T(x:Type):=Program->World->FG->(Str->Option Value)->Heap->Addr->Addr->Nat->x
abbrev m_U(n x z)(P w K mg base)(p l:Addr)(k)(B:Ay Unit):=∀f cdv A outer s H E,AT k (A.deeper (envOfC x (AM z) s.heap.objs.size f cdv))->Ce (CI CX0 P w K mg base n x (AM z) f cdv A outer s H E).nox (D0 K H) (B9 z) B
abbrev m_D(n x z)(P w K mg base)(p l:Addr)(k)(B:Ay Dr):=∀f cdv A outer s H E,AT k (A.deeper (envOfC x (AM z) s.heap.objs.size f cdv))->Ce (CI CX0 P w K mg base n x (AM z) f cdv A outer s H E).nox (DL (WdS p l) K H) (B9 z) B
abbrev m_W(n x z)(P w K mg base)(p l:Addr)(k)(B:Ay Dr):=∀f cdv A outer s H E,AT k (A.deeper (envOfC x (AM z) s.heap.objs.size f cdv))->Ce (CI CX0 P w K mg base n x (AM z) f cdv A outer s H E).nox (DL (WdS p l) K λ_=>none) ((B9 z).drop 1) B
abbrev m_V(x s G)(P w K mg base)(p l:Addr)(k):=Cv P w K mg base k x s (sp0 K G)
abbrev m_E(x s G)(P w K mg base)(p l:Addr)(k):=Cv P w K mg base k x s (spS (WdS p l) K G)
abbrev m_A{S}(h:m_T Prop)(t:m_T (Ay S->Prop))(P w K mg base)(p l:Addr)(k)(B:Ay S):=h P w K mg base p l k->t P w K mg base p l k B
abbrev m_R(t:m_T (Ay Unit->Prop)):={B:Ay Unit//∀P w K mg base (_:Bn mg) (_:Cst K mg) k,t P w K mg base 0 0 k B}
abbrev m_S(t:m_T (Ay Dr->Prop)):={B:Ay Dr//∀P w K mg base p l (_:Bn mg) (_:Cst K mg) k,t P w K mg base p l k B}
open Lean in
def m_L(x:List String):MacroM Term:=do
 let y:=((x.filter (·≠"")).map λz=>(Syntax.mkStrLit z:Term)).toArray
 `([$y,*])
open Lean in
def m_I(c:String)(i:Nat):Ident:=mkIdent (c++toString i).toName
open Lean in
def m_Y(x:Name)(y:Array Term):Term:=Syntax.mkApp (mkIdent x) y
open Lean in
def m_H:List String->Nat->Term->MacroM Term
 |[],_,t=>pure t
 |z::w,i,t=>do
  let v:=z.splitOn " "
  let l←m_L (v.drop 1)
  let t←m_H w (i+1) t
  pure (m_Y `m_A #[m_Y (if z.front=='D' then `m_E else `m_V) #[Syntax.mkStrLit (String.ofList (v[0]!.toList.drop 1)),l,m_I "G" i],t])
open Lean in
def m_J(x:String):Array Ident:=((x.splitOn " ").map λy=>mkIdent y.toName).toArray
local macro_rules
 |`(command|example($m:ident $s:ident $n:ident $c:ident):$h:str:=$b:str)=>do
  let w:=h.getString.splitOn "/"
  let f:=w[0]!.front
  let d:=f != 'U'
  let e:=w.drop 4
  let C:=(List.range e.length).toArray.map (m_I "C")
  let G:=(List.range e.length).toArray.map (m_I "G")
  let t←m_H e 0 (m_Y (if f=='U' then `m_U else if f=='D' then `m_D else `m_W) #[n,Lean.Syntax.mkStrLit w[1]!,s])
  let q:=m_Y (if d then `m_S else `m_R) #[t]
  let x:=m_J (if d then "P w K mg base p l hm cs k" else "P w K mg base hm cs k")++C++m_J "f cdv A outer s H E hr"
  let a←m_L (w[2]!.splitOn " ")
  let r←m_L ((w[2]!++" "++w[3]!).splitOn " ")
  return Lean.mkNullNode #[←`(command|abbrev $s:ident:Stmt:=Em $(Lean.Syntax.mkNumLit (String.ofList (w[0]!.toList.drop 1)))),←`(command|abbrev $n:ident:List Str:=$r),←`(command|def $c:ident:C5 $n $a (AM $s):=by and_intros),
   ←`(command|def $m:ident $[($G)]* : $q:term :=by
    refine⟨?B,?h⟩
    case h=>
     intro $x*
     exact $b $s $n $c $C*)]
set_option hygiene true
example(K3 K4 K5 K6):"U5/within/wide high cell/":="Räĕx.ĕx)"
example(K7 K8 La Lb):"U6/covered/kind place/x y cells i":="ZyĖėz+z$%2[Ęå':æ%%ęHƧƨƩƪHST+T'T$gçåHƧƨƩƪMĚ)5è1.Ò%"
example(Lc Ld Le Lf):"U7/holders/hall stand/held wall n kind cell/Ucovered kind place":="{ȅ|hA$:ěé1Óƫ[êƬ##ũå%'B|ëC'ì)N&:ěéDNÒ+"
example(Lg Lh Li Lj):"U12/goes/ways direction/":="í]Ĝ.îĝ)*]Ĝ.îĝ)*Ū^}i"
example(Lk Ll Lm Ln):"U13/one_further/place direction/east north":="~6ȆȇHĞ(0Ğ0(Ğƭ0Ğ0ƭU+ğ$Ȉ0##ȉ#;##jj)ïMĚA5èA1"
example(Lo Lp Lq Lr):"U14/met_by/hall stand held n direction/kind met cell holder/Ugoes ways direction/Ucovered kind place/Uone_further place direction/Uwithin wide high cell":="À'_A1kðOÁVI<%&2|h`lIÔmnÂ)1%/ĠȊ7PƮa5=1ȋ####kÃñEÓƫġūÁAÁA</ĢģE1òEDb&&Eó&"
example(Ls Lu Lv Lw):"U15/movers_among/hall stand held n direction/strong going asked met/Umet_by hall stand held n direction":=">'V_A1kñIÓȌZÕ&J<$/*~Öô=W&ĠõÄÂD=%kÃĤĥĦEģE2oIÓȍöæ&&ħ×ƯưÅ&?3p3×ƯưØò.).ȎU/;#jȏ*Æq÷&ƱƲ#Ĩĩrs"
example(Lx Ly Lz LA):"U16/movers/hall stand n direction//Umovers_among hall stand held n direction/Uholders hall stand":="ROl.l)Ç`øQ+$"
example(LB LC LD LF):"U17/behind_step/stand going direction/places n/Uone_further place direction":=">$Ù0ĪīÈÉĬ?(p(ù%:Ƴĭ7PNOÂ.N+ƴƵƶƷĭƸƹRú$"
example(LG LH LI LJ):"U18/stands_along/hall stand held n direction/stands last going/Umovers_among hall stand held n direction/Ubehind_step stand going direction/Umovers hall stand n direction":="À'26ȐU&;#jĖ/õÄÊÖĤȑȒ=>&`C&Ú/Į''D:į/mnŬ&Êó'"
example(LK LL LM LN):"U19/pushes_with_ends/hall stand/held pairs n direction ends/Uholders hall stand/Ustands_along hall stand held n direction":="{OøF$2[Ęû(%BĘ4'[F&`Ŭ(ÄQ%'æ$$ŭHŮůŰűHSST%T'?&ȓ#ũİË&ıėĲHŮůŰűĳ(HŮůŰűüMÛÄý0ĴÒ$"
abbrev GS:Stmt:=Em 22
abbrev IN:List Str:=["stands"]
def l5:C5 IN ["stands"] (AM GS):=by and_intros
def IP:{ B:Ay D // ∀P w K mg base (a:Addr) (hm:Bn mg) (cs:Cst K mg) k f cdv A outer s H E,AT k (A.deeper (envOfC "refuse_too_many" (AM GS) s.heap.objs.size f cdv))->
 Ce (CI CX0 P w K mg base IN "refuse_too_many" (AM GS) f cdv A outer s H E).nox (DL (C2 K a) K H) (B9 GS) B }:=by
 refine{?B,λP w K mg base a hm cs k f cdv A outer s H E hr=>?h};case h=>exact"ĢĵŲþȔ#ƺƻG0ÓƼȕ" GS IN l5
abbrev GT:Stmt:=Em 23
abbrev IQ:List Str:=["hall","layer","ways","further","stand","push","end"]
def l6:C5 IQ ["hall","layer","ways"] (AM GT):=by and_intros
def IR(E1)(E3:List D->D->Ar D D):{ B:Ay D // ∀P w K mg base (a:Addr) (hm:Bn mg) (cs:Cst K mg) k (C3:Cv P w K mg base k "pushes_with_ends" ["hall","stand"] (sp0 K E1)) (C6:Cv P w K mg base k "refuse_too_many" ["stands"] (spS (C2 K a) K E3)) f cdv A outer s H E,AT k (A.deeper (envOfC "layer_behind" (AM GT) s.heap.objs.size f cdv))->
 Ce (CI CX0 P w K mg base IQ "layer_behind" (AM GT) f cdv A outer s H E).nox (DL (C2 K a) K H) (B9 GT) B }:=by
 refine{?B,λP w K mg base a hm cs k C3 C6 f cdv A outer s H E hr=>?h};case h=>exact">$2|ų#Ė%[êëÚ0'&BcȖ#aDéöȗ#aéDMÚ'b$$DȘĶŴķ+-R÷$ŵ8Ŷ#" GT IQ l6 C3 C6
abbrev GU:Stmt:=Em 24
abbrev IS:List Str:=["hall","stand","most","ways","found","layer"]
def l7:C5 IS ["hall","stand","most"] (AM GU):=by and_intros
def IT(G0:List D->D->Ar D D):{ B:Ay Unit // ∀P w K mg base (hm:Bn mg) (cs:Cst K mg) k (D4:∀a:Addr,Cv P w K mg base k "layer_behind" ["hall","layer","ways"] (spL (C2 K a) K G0)) f cdv A outer s H E,AT k (A.deeper (envOfC "spread" (AM GU) s.heap.objs.size f cdv))->
 Ce (CI CX0 P w K mg base IS "spread" (AM GU) f cdv A outer s H E).nox (D0 K H) (B9 GU) B }:=by
 refine{?B,λP w K mg base hm cs k D4 f cdv A outer s H E hr=>?h};case h=>exact"À$ƽa)ĸF%2'JĴÖģI2ôW%5öŷ'b%%Iștğ$#Ț8#;#j.Iĭ[doI2ŷ'b%%Iŷ%țȜƾƿG%ƾƿĭȝ" GU IS l7
example(LO LP LQ LR):"U25/come_to/hall stand/found ways/Uspread hall stand most":="~yõǀÓƼ-ÿ+$÷$Ȟ#8ȟ"
example(LS LU LV LW):"U30/_law_covered/_law_kind_here _law_place/_law_found _law_i":="{2Ęå$:æ++ęeǁǂǃĹ$(gçåeǁǂǃMĚx)èx.ó+"
example(LX LY LZ L7):"U31/_law_room_of/_law_wide _law_high _law_kind_here/_law_across _law_up":="~6ĺU$ğ%#;##@##ĀĻļ.xĻļ)x#Ƞ7aĽľ1NĽ1ĽNĽ*ȡ##Ȣ@@Ǆxï"
example(L8 Ma Mb Mc):"D32/_law_sized/_law_state _law_broad/_law_way/D_law_take _law_state _law_many":="Z]Ÿ)Ŀ+fí]Ì5Ŀ]Ì5ĿĿ"
example(Md Me Mf Mi):"D33/_law_kind/_law_state _law_wide _law_high _law_broad/_law_sizes _law_across _law_up _law_ways _law_great/D_law_take _law_state _law_many":="À%JŀŀÍ6ĺtÜ#;##@##ĀÎl)āĂNŹźŻżÎl5āĂNŹźŻż#/ĂJǅă-cŸ1>/ĂJǅă-dĜ=ĺtÜ#;##@##ĀŁ)f*#ĢĜ=ĺtÜ#;##@##Ā*Ł5f#ĠfdÌEŽtÜž/#;###@@@###ł*Ł5ĄqŃÄ4İi#KdÌEŽtÜž/#;###@@@###łŁ)ĄqŃC(4*İi#dÌEŽtÜž/#;###@@@###łŃC(4ŃÄ4İi#ńąl,,IŅl,,Dl=āĂÝĆĆņſÞ-"
example(Mj Mk Ml Mm):"D34/_law_hall/_law_state _law_broad _law_much/_law_wide _law_high _law_cells _law_shuts _law_taken _law_kinds _law_places _law_rooms _law_turn _law_kind_here _law_place _law_own _law_room _law_cell/D_law_sized _law_state _law_broad/U_law_covered _law_kind_here _law_place/D_law_take _law_state _law_many/D_law_kind _law_state _law_wide _law_high _law_broad/U_law_room_of _law_wide _law_high _law_kind_here":="ZyĄĴÿ$%'`Ňňć4ÍK6ƀU&ŉeĈǆǇŊĹ0(?'ŋ#;##p'ĉeĈǆǇØŌ^ÏnìJÍÙ+ƁƂōŎ*.#Õ/ƃǈŏ?Ĉ?S&&?ĈMC0ƄĊ-ȣ#Ȥ8ȥƅƆÀ32FX2ß*ċāuÝǉàn44Ù(ƁƂōŎLÀvàūC$Ǌ%FYáÇànèļ1VÐ*ÔànèļNVÐ*Č`QvYFƇŐC$Q%vBcƈǋôW3*ǌƉǍľč9Ƈ5ðőŏŒÅ/ČČŒƊȦ7Pa.)Ƌ#ƌƍ>ßľč9ƇĮ33ÐÑĮXX9YBĬ?ČpČùǎ:ěG/9ǎĊRMÛňǏú&qú3qúX"
example(Mn Mo Mp Mq):"U35/_law_behind/_law_place _law_direction/":="ńŅǐ,,ƎAuÝĆſÞ4)ƏAuÝĆņſÞ-)-"
example(Mr Ms Mt Mu):"U36/_law_goes/_law_kind_here _law_direction/":="Rȧ7îAiǑîA_Jă-ĝ)"
example(Mv Mw Mx My):"U37/_law_step/_law_hall_here _law_stand _law_n _law_direction/_law_wide _law_high _law_shuts _law_kinds _law_going _law_at _law_one _law_ahead _law_other _law_own/U_law_covered _law_kind_here _law_place/U_law_behind _law_place _law_direction/U_law_goes _law_kind_here _law_direction":="KyË0Ɛ%ǒz%z'Ďz&Ƒ/kôV_=5*ĠJ<+FX*íÖôďW3>ß_EďÕLOœ_=čÔ`Â)č$KkÃġnÂ=č$ŔőŏŕÅ&LLŕâƒ8ŖƋ#ƌƍkðŗŭHĐđƓƔHSST%T'?LpLıėĲHĐđƓƔĳ(HĐđƓƔüäĕ.5ĕ)1[ċû/vÑFYOŘ=Ðì)ÐĢƕòÐEŔőŏřǓÅLYYřǓâƒ8ŖƋ#ƌƍb33ÐįXĻďkƕƉŲW3*ÌV_=5÷3ƱƲ#"
example(Mz MA MB MC):"U38/_law_pushed/_law_hall_here _law_stand _law_push/_law_n _law_direction _law_many _law_turn _law_going _law_places _law_k/U_law_step _law_hall_here _law_stand _law_n _law_direction/U_law_behind _law_place _law_direction":="KyË+Ɛ$Ɩ$ǔ%'ċ<'&À/õÊdĤĥĦ=Ò&3Ù(ĪīÈÉĬ?/p/ùX:ƳG37Pď`ÂEď%ƴƵƶƷG3Ƹƹ:į(ú3ó("
example(MD ME MF MG):"U39/_law_pushes/_law_hall_here _law_stand/_law_found _law_n _law_direction _law_many _law_behind_here/U_law_pushed _law_hall_here _law_stand _law_push":="{2ċû($Bċ4%>'*F&õŚň4BÖƗśrsDZĮ++MÛC$Q%'<&'ĻI:į&Ǖ&Śň4ó+"
example(MH MI MJ MK):"U40/_law_layers/_law_hall_here _law_stand/_law_met _law_rungs _law_further _law_one _law_push _law_behind_here/U_law_pushes _law_hall_here _law_stand":="{ƽa)ĊF$ÝȨĶƘJĴ-~ÖŌǖu1Þ2>%2|ų#u1Þ'BêëQ0'&/BcǗȩ7Pa=5öěé=Ċb%%=:b$$ƘÎ<%ŵ8Ŷ#ŜŝȪ7#1ȫȬĶÞ"
example(ML MM MN MO):"U41/_law_all/_law_hall_here _law_stand/_law_found _law_layer/U_law_layers _law_hall_here _law_stand":="{2|ëø$:ǘ+ȭȮ+1RƘÎ<+ŵ8Ŷ#Ŝŝ"
example(MP MQ MR MS):"D42/_law_shuted_here/_law_state _law_hall_here _law_stand/_law_taken _law_k _law_place _law_free/U_law_covered _law_kind_here _law_place/D_law_take _law_state _law_many":="KÕ$ÆŞwĪīÈÉêƬ##ũ<+%':ƙ$ƚƎ1OÂwN'K6ƀU&ŉŒŊÅ$gŋ#;##ëŇÁwÁwć4ÍĉŒØò.).#dñD2Ò(ńŅœ,,wœwÇƃÔÎƏÆŞwĪīÈÉÝāuDàķû&-Ǚǚ#ŜŝĨĩrsŞw"
example(MT MU MV MW):"D43/_law_lane/_law_state/_law_shuts _law_first _law_y _law_gap _law_cells _law_place/D_law_take _law_state _law_many/U_law_covered _law_kind_here _law_place":="ZÕ(2+fKcĵŲþf*BǛhMŀÍ$[Õ%ľ*ĝƛǜȯ15æ((ħeĐđǝĹ$%gç4eĐđǝØo.5Mø6ƀtŉŕŊÅ(gŋ#;##h`Ňŀć4ÍĉŕØò.).#ÑF&uIĄû'ńƜƝ,,Ǟąş,,*ąş,,*ŅÇ,,Æq÷(Ǚǚ#ĨĩrsƝáƝáĆşiÔf--6Ś<&"
abbrev Gm:Stmt:=Em 29
abbrev J3:List Str:=["_law_found","_law_due"]
def uy:C5 J3 ["_law_found","_law_due"] (AM Gm):=by and_intros
def Gn(D6):{ B:Ay Unit // ∀P w K mg base (hm:Bn mg) (cs:Cst K mg) k (B6:Cv P w K mg base k "_law_same" ["_law_found","_law_due"] (sp0 K D6)) f cdv A outer s H E,AT k (A.deeper (envOfC "_law_same" (AM Gm) s.heap.objs.size f cdv))->
 Ce (CI CX0 P w K mg base J3 "_law_same" (AM Gm) f cdv A outer s H E).nox (D0 K H) (B9 Gm) B }:=by
 refine{?B,λP w K mg base hm cs k B6 f cdv A outer s H E hr=>?h};case h=>exact"K]ĤĥĦ)ŪĥĦĸcŠǟƅƆ~ãÃǠƗǟƅƆ.oW0W(ŗƞeǡǢšĹ0(?(Ɵǣp(ĉeǡǢšüäâƒ8ŖOŘ).ì5.ícÃŠƠÈÉŠśrsíãoĒƠÈÉŢƠÈÉ)ãÃoĒśrsŢśrs)oW0W(ŗƞēơǤS×0(ƟǣȰ#ȱĀË0ĖıėĲēơĳ(ēơüOø]ŠǥţŤäĒǥţŤâ^}ǦĒȲōŎäȳ7Ēȴȵȶâ^}" Gm k Gm B6
example(MX MY MZ M1):"L44/law/_law_script/_law_state _law_broad _law_hall_here _law_stand _law_shuted _law_due _law_less _law_held _law_one _law_some _law_found _law_other _law_again/D_law_take _law_state _law_many/D_law_hall _law_state _law_broad _law_much/D_law_lane _law_state/D_law_shuted_here _law_state _law_hall_here _law_stand/U_law_all _law_hall_here _law_stand/Ucome_to hall stand/U_law_same _law_found _law_due":="{ǧ^}ÏĔ4*yÏķÄìJÍÙ+ƁƂōŎÿ$%ZdŌ^ÏĔ4*ǨÏn-ÿ$%'ÏūÊZyáÇŐÊÔŐÚ'ƢĎz&Ƒ/3ÆǩťǪÊ-ǫ8Ǭ#ţŤZêhJÛý&ŇQ'/ý&Xß>LmǭÚXãġǮQLßöȷGLbLLNvȸ7PȹȺ#DÏĔqǯ&Ȼ#ï>YŐývãÃġǮÇmǭýv<YðŗęēšÅ&gų#ËYēšâȼ8Ƚ#~ãģ9YDŌ^ħ?ǰ?SghV1?ǰØÌA.2îÆǩťǪÊ-ǫ8Ǭ#ţŤE"
section
variable{P:Program}{w:World}{K:FG}{mg:Str->Option Value}{base:Heap}
open H in
def uz(F:CF K "law" "law" MY f fd){k:Nat}(j:Cv P w K mg base k "_law_begin" ["_law_script"] (Iz K))(v:∀(p l:Addr) (c:Value) (A:Around) (b:List Env) (s:Shared) (H:Hp) (E:XK),AT k (A.deeper (envOfC "law" (AM MY) s.heap.objs.size f c))->Ce (CI CX0 P w K mg base MZ "law" (AM MY) f c A b s H E).nox (DL (WdS p l) K (λ_=>none)) ((B9 MY).drop 1) B)(u:∀ns:List Int,ns.length<=63->Aa (B (CH MZ.length) (Fa ns,0)) (λg _=>g=.rt (.bl true)) λ_ _=>False):Cs P w K mg base CX0 (k+1) f fd ["_law_script"] (spLaw K):=by
 refine F.ok M1 (λa H Q E h=>?_) (λc A b s H a Q E e h=>?_)
 ·obtain⟨a,ns,rfl,_⟩:=h;rfl
 ·obtain⟨a,ns,rfl,n,d,q⟩:=h
  obtain⟨y,o,x,f,r,h⟩:=j.ex;refine{_,bA (bF (i:=1) M1.nd rfl (Or.inl rfl) (eR (E:=E0) h e (by rfl) x f r .nil eS (aX (pv 0) bt))) (rm (K:=K) λp l=>v p l c A b s H E e),?_};refine{.ref a,rfl,a,ns,rfl,n,d,λp l h b a f c e=>?_};have b:(Fa ns).length<=63/\Fa ns≠[]:=by
   delta Fa;split
   ·exact{'z','d'}
   ·rename_i a;exact⟨d,a⟩
  refine{p,l,CH MZ.length,(Fa ns,0),rn (m:=MZ.length-2),{c,e,b.2,b.1,Int.le_refl 0},?_};refine ak (u ns d) (λg a e=>?_) λx a e=>e.elim
  subst e;intro v H2 _ _ z;rw[Is.bl_iff.mp z];exact q H2
end
section
variable{S:Type}
def l8{g:BX}(I:Nat->Ae->S->Prop){l:List D}{Z:Ae}{b:S}(n:Nat)(f:I n Z b)(e:∀i d Z b,l[i]?=some d->I (n+i) Z b->∀P:Fl->S->Prop,(∀c a,I (n+i+1) c a->P (.nx c) a)->(∀d a,Q (.rt d) a->P (.rt d) a)->∃c,g d Z=some c/\Aa (B c b) P E)(j:∀Z b,I (n+l.length) Z b->Q (.nx Z) b):Aa (DV S g B l Z b) Q E:=
 gL I n f (λi d Z b h a=>e i d Z b h a _ (λ_ _ z=>z) λ_ _ z=>z) j
def aN{g:BX}(I:Nat->Ae->S->Prop){l:List D}{Z:Ae}{a:S}(n:Nat)(j:I n Z a)(f:∀i d Z a,l[i]?=some d->I (n+i) Z a->∀P:Fl->S->Prop,(∀c b,I (n+i+1) c b->P (.nx c) b)->∃e,g d Z=some e/\Aa (B e a) P E)(c:∀Z a,I (n+l.length) Z a->Q (.nx Z) a):Aa (DV S g B l Z a) Q E:=
 gL I n j (λi d Z a h b=>f i d Z a h b _ λ_ _ z=>z) c
def cK{F G:Ay S}{Z:Ae}{c:S}(I:Ae->S->Prop)(d:∀P:Fl->S->Prop,(∀b a,I b a->P (.nx b) a)->Aa (F Z c) P E)(e:∀b a,I b a->Aa (G b a) Q E):Aa (E7 S F G Z c) Q E:=
 rM I (d _ λb a h=>⟨b,rfl,h⟩) e
def dh{t:A9 S}{Z:Ae}{e:S}(I:Ae->S->Prop)(μ:Ae->S->Nat)(i:I Z e)(g:∀Z e,I Z e->∀(P:Fl->S->Prop) (f:S->Prop),(∀c a,I c a->μ c a<μ Z e->P (.nx c) a)->(∀d b,Q (.rt d) b->P (.rt d) b)->(∀c,Q (.nx Z) c->f c)->Aa (t Z e) (λb c=>if b=true then Aa (B Z c) P E else f c) E):Aa (FQ S t B Z e) Q E:=
 rL I μ i λZ e h=>g Z e h _ (λc=>Q (.nx Z) c) (λ_ _ a b=>⟨a,b⟩) (λ_ _ z=>z) λ_ z=>z
end
def fF{i j:Int}(h:DR i j):ID (.int i) (.int j)=some (.int (i*j)):=by
 delta ID;rw[gP h];rfl
abbrev Aj:=Int×Int
def Af(p:Aj):D:=.tup [.int p.1,.int p.2]
def az(p:Aj):(Af p).imm=true:=id rfl
def uA(p:Aj):(Af p).lw=true:=kJ rfl 'd'
def l9(p:Aj):(Af p).dep<=1:=by simp[Af,D.dep,D.depL]
def CU(h:Int)(p:Aj)(i:Nat):List Aj:=(List.range h.toNat).map λ(j:Nat)=>(p.1+(i:Int),p.2+(j:Int))
def AL(w h:Int)(p:Aj):List Aj:=(List.range w.toNat).flatMap (CU h p)
def ce{w h:Int}:q∈AL w h p↔p.1<=q.1/\q.1<p.1+w/\p.2<=q.2/\q.2<p.2+h:=by
 unfold AL CU;simp only[DK,DY,BF];constructor
 ·rintro ⟨i,a,j,b,rfl⟩
  refine{?_,?_,?_,?_}<;>simp<;>omega
 ·rintro ⟨b,a,c,d⟩
  refine{(q.1-p.1).toNat,'o',(q.2-p.2).toNat,'o',?_};refine Prod.ext ?_ ?_<;>simp<;>omega
def uB{w h:Int}:(AL w h p).length=w.toNat*h.toNat:=by
 unfold AL CU;rw[List.length_flatMap];simp only[Ai,Ef,List.map_const',List.sum_replicate_nat]
instance kd(w h:Int)(ways:Str)(s:Int):D:=.tup [.int w,.int h,.str ways,.int s]
def ik{w h:Int}{a:Str}{s:Int}:(kd w h a s).imm=true:=id rfl
def at0:BG [a,b,c,d] 0=some a:=rfl
def at1:BG [a,b,c,d] 1=some b:=rfl
def at2:BG [a,b,c,d] 2=some c:=rfl
def at3:BG [a,b,c,d] 3=some d:=rfl
def pt0:BG [a,b] 0=some a:=rfl
def pt1:BG [a,b] 1=some b:=rfl
def Fc:List D->Ar Unit D:=BC 4 2 LS.1
def eI(b:D.immL m=true)(a:l.length+m.length<=1000):Hs l (.lst m)=some (l++m):=by
 show (if D.immL m=true/\l.length+m.length<=sizeLine then some (l++m) else none)=_;rw[if_pos {b,aY a}]
def ip{a b c d:Nat}(f:a<=c)(e:b<=d):a*b<=c*d:=Nat.mul_le_mul f e
def cL{w h:Int}{ways:Str}{s:Int}(a:w<=30)(c:h<=30)(b:0<=w)(g:0<=h)(l:Q (.lst ((AL w h p).map Af)) ()):Aa (Fc [kd w h ways s,Af p]) Q E:=by
 refine aF rfl 'z' ?_;delta LS;dsimp only;simp?! [ar,aQ,kd,AR,at0,at1];rw[bQ 'o' b];refine aN (λi Z a=>∃x,Z=[.bor (kd w h ways s),.bor (Af p),.own (.lst (((List.range i).flatMap (CU h p)).map Af)),x]) 0 {_,rfl} (λi d Z a c b P f=>?_) λZ a b=>?_
 ·obtain⟨x,e⟩:=b
  obtain⟨rfl,j⟩:=bD c;subst e;have a:∀i:Nat,D.immL (((List.range i).flatMap (CU h p)).map Af)=true:=λi=>aq az _
  refine{_,rfl,?_};simp?! [ar,Bc,a,kd,AR,at0,at1];rw[bQ 'o' g];refine cc (λd=>match d with | .int j=>Af (p.1+(i:Int),p.2+j) | _=>.non) (λZ=>∃x,Z=[x,.bor (.int (0+(i:Int))),.bor (Af p)]) {_,rfl} (λd c Z hI132=>?_) (aY (by rw[bC];omega)) ?_
  ·obtain⟨x,e⟩:=hI132
   subst e;obtain⟨j,g⟩:=DF c;obtain⟨rfl,m⟩:=bD g;refine{_,rfl,{_,rfl},⟨rfl,rfl⟩,?_};simp?! [ar,Af,AR,pt0,pt1,BL,AU,aO];simp
  ·have e:(Dk 0 h.toNat).map (λd=>match d with | .int j=>Af (p.1+(i:Int),p.2+j) | _=>D.non)=(CU h p i).map Af:=by
    unfold Dk CU;rw[Df,Df];refine List.map_congr_left λj _=>?_
    simp[Af]
   rw[e];refine{_,eI (aq az _) ?_,f _ _ {.bor (.int (0+(i:Int))),?_}}
   ·rw[Ai,Ai,List.length_flatMap]
    unfold CU;simp only[Ai,Ef,List.map_const',List.sum_replicate_nat];have:i*h.toNat<=29*30:=ip 'o' 'o';omega
   ·rw[F2,Fh,BD]
    simp[kd]
 ·obtain⟨x,e⟩:=b
  subst e;rw[bC,As];have a:∀i:Nat,D.immL (((List.range i).flatMap (CU h p)).map Af)=true:=λi=>aq az _
  simp?! [ar,a];exact l
def IU:List D->Ar Unit D:=BC 5 3 LX.1
def CN(A4 A3 w h:Int)(ways:Str):Int:=if ways = "any" then (A4-w+1)*(A3-h+1) else if ways = "row" then A4-w+1 else if ways = "column" then A3-h+1 else 1
def Dq(x:Str):Prop:=x = "any"\/x = "row"\/x = "column"\/x = "none"
def uC{b c w h:Int}{a:Str}{s:Int}(e:0<=b-w)(d:b-w<=100)(e:0<=c-h)(d:c-h<=100)(g:Dq a)(i:Q (.int (CN b c w h a)) ()):Aa (IU [.int b,.int c,kd w h a s]) Q E:=by
 refine aF rfl 'z' ?_;delta LX;dsimp only;have d:DR (b-w+1) (c-h+1):=.inl {'o','o'};simp?! [ar,kd,AR,at0,at1,at2,AU,BL,GQ,fF d];have f:Gf a ["any","row","column","none"] [D.int ((b-w+1)*(c-h+1)),D.int (b-w+1),D.int (c-h+1),D.int 1]=some (.int (CN b c w h a)):=by
  rcases g with e | e | e | e<;>subst e<;>rfl
 rw[f];exact{.inl ag,i}
def IV:List D->Dr->Ar Dr D:=D5 3 2 (L8 CL).1
def uE{b:Bool}{f:Dr}{Q:D->Dr->Prop}{E:AG->Dr->Prop}(a:f.2<2 ^ 39)(h:∀(w h:Int) a,1<=w->w<=9->1<=h->h<=9->(b=true->5<=w/\4<=h)->a.2<=f.2+3->Q (.tup [.int w,.int h]) a):Aa (IV [.bl b] f) Q E:=by
 refine cZ rfl 'z' ?_;delta L8;dsimp only;simp?! [ar];cases b with
 | true=>
   simp?! [ar];refine aB 'z' 'z' 'o' λe b l m j=>?_
   simp?! [BL,AU,ar];refine aB 'z' 'z' 'o' λc a i g d=>?_
   simp?! [BL,AU,ar,aO];exact h _ _ _ 'o' 'o' 'o' 'o' (λ_=>{'o','o'}) 'o'
 | false=>
   simp?! [ar];refine aB 'z' 'z' 'o' λe b l m j=>?_
   simp?! [Np,Nq,Nr,ar];split
   ·refine aB 'z' 'z' 'o' λc a i g d=>?_
    simp?! [BL,AU,ar];refine aB 'z' 'z' 'o' λn b m j l=>?_
    simp?! [BL,AU,ar,aO];exact h _ _ _ 'o' 'o' 'o' 'o' (λe=>by cases e) 'o'
   ·split
    ·refine aB 'z' 'z' 'o' λc a i g d=>?_
     simp?! [BL,AU,ar];refine aB 'z' 'z' 'o' λn b m j l=>?_
     simp?! [BL,AU,ar,aO];exact h _ _ _ 'o' 'o' 'o' 'o' (λe=>by cases e) 'o'
    ·refine aB 'z' 'z' 'o' λc a i g d=>?_
     simp?! [BL,AU,ar];refine aB 'z' 'z' 'o' λn b m j l=>?_
     simp?! [BL,AU,ar,aO];exact h _ _ _ 'o' 'o' 'o' 'o' (λe=>by cases e) 'o'
def ma{v:Int}(c:0<=v)(b:v<6):∃s:Int,AR (.lst [.int 1,.int 1,.int 1,.int 2,.int 2,.int 3]) (.int v)=some (.int s)/\1<=s/\s<=3:=by
 obtain⟨d,a,e⟩:=ef (l:=[.int 1,.int 1,.int 1,.int 2,.int 2,.int 3]) rfl c (by simpa using b);rw[e];simp only[AE,DJ,or_false] at a;rcases a with r | r | r | r | r | r<;>subst r<;>exact{_,rfl,'z','z'}
def uF{v:Int}(c:0<=v)(b:v<6):∃s:Str,AR (.lst [.str "any",.str "any",.str "row",.str "column",.str "row",.str "none"]) (.int v)=some (.str s)/\Dq s:=by
 obtain⟨d,a,e⟩:=ef (l:=[.str "any",.str "any",.str "row",.str "column",.str "row",.str "none"]) rfl c (by simpa using b);rw[e];simp only[AE,DJ,or_false] at a;rcases a with r | r | r | r | r | r<;>subst r<;>exact{_,rfl,by simp[Dq]}
def uG{v:Int}(c:0<=v)(b:v<6):∃s:Str,AR (.lst [.str "row",.str "column",.str "row",.str "column",.str "any",.str "none"]) (.int v)=some (.str s)/\Dq s:=by
 obtain⟨d,a,e⟩:=ef (l:=[.str "row",.str "column",.str "row",.str "column",.str "any",.str "none"]) rfl c (by simpa using b);rw[e];simp only[AE,DJ,or_false] at a;rcases a with r | r | r | r | r | r<;>subst r<;>exact{_,rfl,by simp[Dq]}
def uH{v:Int}(c:0<=v)(b:v<6):∃s:Int,AR (.lst [.int 0,.int 0,.int 1,.int 1,.int 1,.int (-1)]) (.int v)=some (.int s)/\(s=0\/s=1\/s=-1):=by
 obtain⟨d,a,e⟩:=ef (l:=[.int 0,.int 0,.int 1,.int 1,.int 1,.int (-1)]) rfl c (by simpa using b);rw[e];simp only[AE,DJ,or_false] at a;rcases a with r | r | r | r | r | r<;>subst r<;>exact{_,rfl,'z'}
def di(g:a.imm=true)(f:b.imm=true)(e:c.imm=true)(h:d.imm=true):B3 [a,b,c,d]=some (.tup [a,b,c,d]):=cG (by simp[D.immL,g,f,e,h]) 'd'
def IW:List D->Dr->Ar Dr D:=D5 9 4 (Md CL).1
def Ea(a b:Int):Int:=if b<a then b else a
def eJ{a b:Int}:Io (λi j=>if j<i then j else i) [.int a,.int b]=some (.int (Ea a b)):=rfl
def dj{a b:Int}:Ea a b<=a/\Ea a b<=b/\(Ea a b=a\/Ea a b=b):=by delta Ea;split<;>omega
def uI{d e:Int}{i:Bool}{r:Dr}{Q:D->Dr->Prop}{E:AG->Dr->Prop}(f:r.2<2 ^ 39)(c:1<=d)(f:d<=9)(c:1<=e)(f:e<=9)(n:i=true->5<=d/\4<=e)(h:∀(a u:Int) (f:Str) (s:Int) c,1<=a->a<=d->1<=u->u<=e->Dq f->(s=0\/s=1\/s=-1)->c.2<=r.2+11->Q (kd a u f s) c):Aa (IW [.int d,.int e,.bl i] r) Q E:=by
 refine cZ rfl 'z' ?_;delta Md;dsimp only;simp_all!;simp! [bi];simp_all!;simp!;refine aB 'z' 'z' 'o' λj f l g m=>?_
 obtain⟨f,j,o,m⟩:=ma l g;simp! [j,eJ];refine aB 'z' 'z' 'o' λj g m l o=>?_
 obtain⟨g,j,p,o⟩:=ma m l;simp! [j,eJ];simp_all!;simp! [bi];refine aB 'z' 'z' 'o' λl j p q s=>?_
 obtain⟨o,j,m⟩:=uF p q;simp! [j];have l:=dj (a:=d) (b:=f);have j:=dj (a:=e) (b:=g);generalize Ea d f=A1 at l;generalize Ea e g=A2 at j;refine cK (λZ c=>∃(a u:Int) (x:Str) (y:Sl),Z=[Sl.hnd,.bor (.int d),.bor (.int e),.bor (.bl i),.own (.lst [.int 1,.int 1,.int 1,.int 2,.int 2,.int 3]),.bor (.int a),.bor (.int u),.bor (.str x),y]/\1<=a/\a<=d/\1<=u/\u<=e/\Dq x/\c.2<=r.2+6) ?_ ?_
 ·intro f l
  simp!;cases i with
  | false=>
    simp!;exact l _ _ {A1,A2,o,_,rfl,'o','o','o','o',m,'o'}
  | true=>
    obtain⟨f,g⟩:=n rfl;rw[if_pos rfl,ar];simp! [bi];refine aB 'z' 'z' 'o' λv m A z C=>?_
    obtain⟨f,g,B⟩:=uG A z;simp! [g];refine cK (λZ c=>∃(a u:Int) (y:Sl),Z=[Sl.hnd,.bor (.int d),.bor (.int e),.bor (.bl true),.own (.lst [.int 1,.int 1,.int 1,.int 2,.int 2,.int 3]),.bor (.int a),.bor (.int u),.bor (.str f),y]/\1<=a/\a<=d/\1<=u/\u<=e/\c.2<=m.2+1) ?_ ?_
    ·intro P2 f
     simp! [Np,Nq,Nr];split
     ·refine aB 'z' 'z' 'o' λq g n o s=>?_
      simp! [AU];exact f _ _ {_,_,_,rfl,'o','o','o','o','o'}
     ·exact f _ _ {A1,A2,_,rfl,'o','o','o','o','o'}
    ·rintro p g ⟨a,u,y,rfl,g1,g2,g3,g4,f⟩
     simp! [Np,Nq,Nr];split
     ·refine aB 'z' 'z' 'o' λq j n o s=>?_
      simp! [AU];exact l _ _ {_,_,_,_,rfl,'o','o','o','o',B,'o'}
     ·exact l _ _ {a,u,_,_,rfl,'o','o','o','o',B,'o'}
 ·rintro p m ⟨a,u,x,y,rfl,g1,g2,g3,g4,f,l⟩
  simp_all!;simp!;refine aB 'z' 'z' 'o' λv g A z C=>?_
  simp!;refine cK (λZ c=>∃(a u:Int) (x:Str),Z=[Sl.hnd,.bor (.int d),.bor (.int e),.bor (.bl i),.own (.lst [.int 1,.int 1,.int 1,.int 2,.int 2,.int 3]),.bor (.int a),.bor (.int u),.bor (.str x),.bor (.int v)]/\1<=a/\a<=d/\1<=u/\u<=e/\Dq x/\c.2<=g.2+1) ?_ ?_
  ·intro g l
   simp! [Np,Nq,Nr];split
   ·have g:=dj (a:=e) (b:=3)
    simp! [eJ];generalize Ea e 3=B at g;refine aB 'o' 'o' 'o' λq j n o s=>?_
    simp! [AU];exact l _ _ {_,_,_,rfl,'o','o','o','o',by simp[Dq],'o'}
   ·exact l _ _ {a,u,x,rfl,'o','o','o','o',f,'o'}
  ·rintro p j ⟨a,u,x,rfl,g1,g2,g3,g4,f,l⟩
   refine cK (λZ c=>∃(a u:Int) (x:Str),Z=[Sl.hnd,.bor (.int d),.bor (.int e),.bor (.bl i),.own (.lst [.int 1,.int 1,.int 1,.int 2,.int 2,.int 3]),.bor (.int a),.bor (.int u),.bor (.str x),.bor (.int v)]/\1<=a/\a<=d/\1<=u/\u<=e/\Dq x/\c.2<=j.2+1) ?_ ?_
   ·intro j l
    simp! [Np,Nq,Nr];split
    ·have g:=dj (a:=d) (b:=3)
     simp! [eJ];generalize Ea d 3=B at g;refine aB 'o' 'o' 'o' λq j n o s=>?_
     simp! [AU];exact l _ _ {_,_,_,rfl,'o','o','o','o',by simp[Dq],'o'}
    ·exact l _ _ {a,u,x,rfl,'o','o','o','o',f,'o'}
   ·rintro p j ⟨a,u,x,rfl,g1,g2,g3,g4,f,l⟩
    refine cK (λZ c=>∃(a u:Int) (x:Str),Z=[Sl.hnd,.bor (.int d),.bor (.int e),.bor (.bl i),.own (.lst [.int 1,.int 1,.int 1,.int 2,.int 2,.int 3]),.bor (.int a),.bor (.int u),.bor (.str x),.bor (.int v)]/\1<=a/\a<=d/\1<=u/\u<=e/\Dq x/\c.2<=j.2) ?_ ?_
    ·intro i c
     simp! [Np,Nq,Nr];split
     ·have g:=dj (a:=d) (b:=4)
      have i:=dj (a:=e) (b:=4);simp! [eJ];generalize Ea d 4=B at g;generalize Ea e 4=B' at i;exact c _ _ {_,_,_,rfl,'o','o','o','o',by simp[Dq],'o'}
     ·exact c _ _ {a,u,x,rfl,'o','o','o','o',f,'o'}
    ·rintro p c ⟨a,u,x,rfl,g1,g2,g3,g4,f,c⟩
     simp! [bi];refine aB 'z' 'z' 'o' λq c n o s=>?_
     obtain⟨j,i,g⟩:=uH n o;simp! [i,di];exact h a u x j c g1 g2 g3 g4 f g 'o'
structure Tr where
 w:Int
 h:Int
 ways:Str
 s:Int
 x:Int
 y:Int
instance Tr.kind(t:Tr):D:=kd t.w t.h t.ways t.s
instance Tr.place(t:Tr):D:=Af (t.x,t.y)
instance Tr.cells(t:Tr):List Aj:=AL t.w t.h (t.x,t.y)
structure FV(A4 A3:Int)(sh:List Aj)(t:Tr):Prop where
 w1:1<=t.w
 h1:1<=t.h
 x0:0<=t.x
 xw:t.x+t.w<=A4
 y0:0<=t.y
 yh:t.y+t.h<=A3
 ways:Dq t.ways
 st:t.s=0\/t.s=1\/t.s=-1
 free:∀c∈t.cells,c∉sh
structure AH(A4 A3:Int)(sh:List Aj)(ts:List Tr):Prop where
 w1:1<=A4
 w9:A4<=9
 h1:1<=A3
 h9:A3<=9
 sub:sh.Sublist (AL A4 A3 (0,0))
 few:ts.length<=12
 tr:∀t∈ts,FV A4 A3 sh t
 apart:ts.Pairwise λa b=>∀c∈a.cells,c∉b.cells
def An(A4 A3:Int)(sh:List Aj)(ts:List Tr):D:=.tup [.int A4,.int A3,.tup (sh.map Af),.tup (ts.map Tr.kind)]
def Ak(ts:List Tr):D:=.tup (ts.map Tr.place)
def bS(t:Tr):t.kind.imm=true:=ik
def bd(t:Tr):t.place.imm=true:=az _
instance ck(c:Aj):List Al:=[.inl c.1,.inl c.2]
def eK(c:Aj):AN (Af c)=some (ck c):=rfl
def mc(h:ck a=ck b):a=b:=by
 delta ck at h;have c:a.1=b.1/\a.2=b.2:=by simpa using h
 exact Prod.ext c.1 c.2
instance inT(T:List Aj)(k:List Al):Prop:=∃c∈T,ck c=k
def uJ:inT T (ck c)↔c∈T:={λ⟨d,a,e⟩=>by rw[<-mc e];exact a,λh=>⟨c,h,rfl⟩}
def bv{w h:Int}(a:w<=9)(b:h<=9):(AL w h p).length<=81:=by
 rw[uB];exact ip (c:=9) (d:=9) 'o' 'o'
def IX(T:List Aj):D->D
 | .tup [.int x,.int y]=>.bl (decide ((x,y)∈T))
 | _=>.non
def md(T:List Aj)(l:List Aj):(l.map Af).map (IX T)=l.map λc=>.bl (decide (c∈T)):=by rw[Df];rfl
def BM(A4 A3:Int)(ts:List Tr):Int:=ts.foldr (λt r=>CN A4 A3 t.w t.h t.ways*r) 1
theorem me{a b:Int}:∀{c:List Tr},BM a b (c++[t])=BM a b c*CN a b t.w t.h t.ways
 | []=>by simp[BM]
 | u::c=>by
   show CN a b u.w u.h u.ways*BM a b (c++[t])=CN a b u.w u.h u.ways*BM a b c*CN a b t.w t.h t.ways;rw[me,Int.mul_assoc]
def IY:List D->Dr->Ar Dr D:=D5 17 3 (Mj IV Fc CL IW IU).1
def FW(d:D):D:=.tup [d,.bl true]
def uK(l:List Aj):ES ((l.map Af).map FW)=some (l.map λc=>(ck c,.bl true)):=by
 induction l with
 | nil=>rfl
 | cons c l a=>
   show ES (.tup [Af c,.bl true]::(l.map Af).map FW)=_;unfold ES;rw[if_pos (by simp[D.imm]),eK,a];rfl
open H in
def uL{B0:Bool}{l:Int}{st:Dr}{Q:D->Dr->Prop}{E:AG->Dr->Prop}(hs:st.2<2 ^ 38)(hm1:1<=l)(hm2:l<=1000000000000)(hq:∀o r f z O,AH o r f z->BM o r z<=l->O.2<=st.2+500->Q (.tup [An o r f z,Ak z]) O):Aa (IY [.bl B0,.int l] st) Q E:=by
 refine cZ rfl 'z' ?_;delta Mj;dsimp only;simp_all!;simp!;refine uE 'o' λo r st1 w1 w9 G h9 hb t1=>?_
 simp!;simp_all!;simp! [di,aO];refine cL (ways:="none") (s:=0) (p:=(0,0)) 'o' 'o' 'o' 'o' ?_;simp! [aq az];simp_all!;simp!;have hc81:(AL o r (0,0)).length<=81:=bv w9 h9;refine cv (λn acc Z O=>∃f x,acc=f.map Af/\f.Sublist ((AL o r (0,0)).take n)/\Z=[x,Sl.hnd,.bor (.bl B0)]/\O.2<=st1.2+n) 0 {[],_,rfl,'d',rfl,'d'} (λi d acc Z O B W=>?_) λacc Z O W=>?_
 ·obtain⟨f,x,e1,e2,e3,e4⟩:=W
  rw[AK] at B;cases q:(AL o r (0,0))[i]? with
  | none=>rw[q] at B;cases B
  | some c=>
    rw[q] at B;cases B;subst e1 e3;have hi:i<(AL o r (0,0)).length:=(AQ.mp q).1;have hsl:=e2.length_le;rw[CO] at hsl;have I:(AL o r (0,0)).take (i+1)=(AL o r (0,0)).take i++[c]:=by rw[Cc,q];rfl
    rw[As] at e2 e4;refine{_,rfl,?_};simp! [GM,fm,gM];have tk2:∃m:Int,(if B0=true then D.int 20 else D.int 9)=.int m/\0<m/\m<1073741824:=by
     split
     ·exact{_,rfl,'z','z'}
     ·exact{_,rfl,'z','z'}
    obtain⟨m,em,m0,m1⟩:=tk2;rw[em];refine aB m0 m1 'o' λv st2 a2 b2 c2=>?_
    simp! [Np,Nq,Nr];split
    ·refine{az c,lt_size (by rw[Ai];omega),f++[c],_,by rw[BD];rfl,?_,rfl,'o'}
     rw[I];exact e2.append (List.Sublist.refl _)
    ·refine{f,_,rfl,?_,rfl,'o'}
     rw[I];exact e2.trans (List.sublist_append_left _ _)
 ·obtain⟨f,x,e1,e2,e3,e4⟩:=W
  subst e1;rw[As,Ai,CC] at e2;rw[As,Ai] at e4;have hsh:f.length<=81:=Az e2.length_le hc81;simp! [aq az];simp_all!;simp!;refine cc FW (λZ=>∃x,Z=[x]) {_,rfl} (λd B Z hI133=>?_) (aY (by rw[Ai];omega)) ?_
  ·obtain⟨x,e⟩:=hI133
   subst e;obtain⟨c,R,rfl⟩:=BF.mp B;refine{_,rfl,{_,rfl},⟨rfl,rfl⟩,?_};simp! [aO,az,FW]
  ·have od:Ix [.lst ((f.map Af).map FW)]=some (.dct (.non::(CK (f.map λc=>(ck c,.bl true)) ([],[])).1) (CK (f.map λc=>(ck c,.bl true)) ([],[])).2):=by
    show (if ((f.map Af).map FW).length<sizeLine then (ES ((f.map Af).map FW)).map _ else none)=_;rw[if_pos (lt_size (by simp;omega)),uK];rfl
   have hh:=Holds.all (ps:=f.map λc=>(ck c,D.bl true)) (Holds.nil (n:=0)) (λp hp=>by obtain⟨c,_,rfl⟩:=BF.mp hp;exact aE);have hT:Holds (.dct (.non::(CK (f.map λc=>(ck c,.bl true)) ([],[])).1) (CK (f.map λc=>(ck c,.bl true)) ([],[])).2) f.length (inT f):=hh.imp 'd' λk=>by
    simp only[false_or,BF,inT];constructor
    ·rintro ⟨p,⟨c,R,rfl⟩,e⟩;exact⟨c,R,e⟩
    ·rintro ⟨c,R,e⟩;exact{_,⟨c,R,rfl⟩,e}
   rw[od];generalize D.dct (.non::(CK (f.map λc=>(ck c,.bl true)) ([],[])).1) (CK (f.map λc=>(ck c,.bl true)) ([],[])).2=I at hT;have fl:=hT.flat;simp! [fl];simp_all!;simp! [aQ];simp_all!;simp! [aQ];simp_all!;simp!;simp_all!;simp!;refine aB 'z' 'z' 'o' λv2 st2 a2 b2 c2=>?_
   have hmany:∃J:Int,(if B0=true then D.int 30 else D.int (2+v2))=.int J/\0<=J/\J<=30:=by
    split
    ·exact{_,rfl,'o','o'}
    ·exact{_,rfl,'o','o'}
   obtain⟨J,em,hm0,hm3⟩:=hmany;simp! [BL,AU,GM,fm,gM,em];rw[bQ 'o' hm0];refine aN (λi Z g=>∃(z:List Tr) (T:List Aj) (I:D) (M:Int) (y11 y12 y13 y14 y15 A:Sl),Z=[Sl.hnd,.bor (.bl B0),.bor (.int l),.bor (.int o),.bor (.int r),.own (.lst ((AL o r (0,0)).map Af)),.own (.lst (f.map Af)),.own I,.own (.lst (z.map Tr.kind)),.own (.lst (z.map Tr.place)),.bor (.int M),y11,y12,y13,y14,y15,A]/\AH o r f z/\Holds I (81+81*i) (inT T)/\(∀c,c∈T↔c∈f\/∃t∈z,c∈t.cells)/\1<=M/\M<=l/\M=BM o r z/\g.2<=st2.2+13*i) 0 {[],f,I,1,_,_,_,_,_,_,rfl,{w1,w9,G,h9,e2,'d',λt C=>(by cases C),List.Pairwise.nil},hT.imp 'o' λ_=>Iff.rfl,'d','o','o',rfl,'d'} (λi d Z g B W P pn=>?_) λZ g W=>?_
   ·obtain⟨z,T,I,M,y11,y12,y13,y14,y15,A,er,ho,hT,R,U,hr2,N,hst⟩:=W
    obtain⟨rfl,hi⟩:=bD B;subst er;rw[As] at hT hst;have hb2:g.2<2 ^ 38+1000:=by omega
    have hi30:i<30:=by omega
    clear hs t1 e4 c2 a2 b2 hm0 hm3 hi em;refine{_,rfl,?_};simp_all!;simp!;refine uI 'o' w1 w9 G h9 hb λa u ways s st3 g1 g2 g3 g4 g5 g6 t3=>?_
    have kf:(kd a u ways s).flat=false:=rfl;simp! [kf];simp_all!;simp! [kd,AR,at0,at1,AU,BL];refine aB 'o' 'o' 'o' λx st4 a4 b4 c4=>?_
    refine aB 'o' 'o' 'o' λy st5 a5 b5 c5=>?_
    simp! [aO];simp_all!;simp!;refine cL (p:=(x,y)) 'o' 'o' 'o' 'o' ?_;simp! [aq az];simp_all!;simp!;refine uC 'o' 'o' 'o' 'o' g5 ?_;have hroom:1<=CN o r a u ways/\CN o r a u ways<=81:=by
     have z1:1<=o-a+1/\o-a+1<=9:=by omega
     have z2:1<=r-u+1/\r-u+1<=9:=by omega
     delta CN;split
     ·constructor
      ·have:=Int.mul_le_mul z1.1 z2.1 'o' 'o';omega
      ·have:=Int.mul_le_mul z1.2 z2.2 'o' 'o';omega
     ·split
      ·omega
      ·split<;>omega
    generalize hrm:CN o r a u ways=room at hroom;have hown:(AL a u (x,y)).length<=81:=bv 'o' 'o';have cm:DR M room:=.inr {'o','o'};simp! [Cw,Ai,AU,fF cm];split
    ·rename_i hlen
     have hlen:z.length<12:=by have:=of_decide_eq_true hlen;omega
     split
     ·rename_i hle
      have hle:M*room<=l:=of_decide_eq_true hle;refine cc (IX T) (λZ=>∃x,Z=[x,.bor I]) {_,rfl} (λd B Z hI134=>?_) (aY (by rw[Ai];omega)) ?_
      ·obtain⟨x',e⟩:=hI134
       subst e;obtain⟨c,hc',rfl⟩:=BF.mp B;refine{_,rfl,{_,rfl},⟨rfl,rfl⟩,?_};simp! [(hT.in_ (eK c) (b:=decide (c∈T)) (by rw[decide_eq_true_eq,uJ])).1];rfl
      ·rw[md]
       simp! [E9,dZ,BA];split
       ·rename_i hany
        have Y:∀c∈AL a u (x,y),c∉T:=λc hc' hcT=>by
         have:(List.map (λc=>decide (c∈T)) (AL a u (x,y))).any id=true:=by
          rw[List.any_map,List.any_eq_true];exact{c,hc',by simpa using hcT}
         rw[this] at hany;cases hany
        have hpos:1<=M*room:=by have:=Int.mul_le_mul U hroom.1 'o' 'o';omega
        simp_all!;simp! [fF cm];simp_all!;simp! [Bc,aq bS];refine{_,bB rfl (by rw[Ai];omega),?_};simp_all!;simp! [Bc,aq bd];refine{_,bB rfl (by rw[Ai];omega),?_};simp!;refine aN (λj Z g=>∃(tk':D) (A:Sl),Z=[Sl.hnd,.bor (.bl B0),.bor (.int l),.bor (.int o),.bor (.int r),.own (.lst ((AL o r (0,0)).map Af)),.own (.lst (f.map Af)),.own tk',.own (.lst (z.map Tr.kind++[D.tup [.int a,.int u,.str ways,.int s]])),.own (.lst (z.map Tr.place++[D.tup [.int x,.int y]])),.bor (.int (M*room)),.bor (.int (0+(i:Int))),.bor (D.tup [.int a,.int u,.str ways,.int s]),.bor (D.tup [.int x,.int y]),.bor (.lst ((AL a u (x,y)).map Af)),.bor (.int room),A]/\Holds tk' (81+81*i+j) (inT (T++(AL a u (x,y)).take j))/\g=st5) 0 {I,_,rfl,by simpa using hT,rfl} (λj d Z g B W P2 pn2=>?_) λZ g W=>?_
        ·obtain⟨tk',A,er,hT',es⟩:=W
         rw[AK] at B;cases q:(AL a u (x,y))[j]? with
         | none=>rw[q] at B;cases B
         | some c=>
           rw[q] at B;cases B;subst er es;have hj:j<(AL a u (x,y)).length:=(AQ.mp q).1;obtain⟨ks,vs,rfl,k1,k2,k3,k4⟩:=id hT';refine{_,rfl,?_};simp! [D7,k1,eK];refine{ks,vs,rfl,cH 'o',pn2 _ _ {_,_,rfl,?_,rfl}};refine(hT'.put (k:=ck c) (v:=.bl true) aE).imp 'o' λk=>?_
           rw[As,Cc,q];simp only[inT,BN,Option.toList,Bd];constructor
           ·rintro (⟨c',G,h2⟩ | h)
            ·exact{c',by rcases G with G | G<;>simp[G],h2}
            ·exact{c,'d',h}
           ·rintro ⟨c',G,h2⟩
            rcases G with G | G | G
            ·exact .inl {c',.inl G,h2}
            ·exact .inl {c',.inr G,h2}
            ·subst G;exact .inr h2
        ·obtain⟨tk',A,er,hT',es⟩:=W
         subst er es;rw[As,Ai,CC] at hT';have hnew:FV o r f ⟨a,u,ways,s,x,y⟩:={g1,g3,a4,by show x+a<=o;omega,a5,by show y+u<=r;omega,g5,g6,λc hc' hcs=>Y c hc' ((R c).mpr (.inl hcs))};refine pn _ _ {z++[⟨a,u,ways,s,x,y⟩],T++AL a u (x,y),tk',M*room,.bor (.int (0+(i:Int))),.bor (D.tup [.int a,.int u,.str ways,.int s]),.bor (D.tup [.int x,.int y]),.bor (.lst ((AL a u (x,y)).map Af)),.bor (.int room),A,?_,{w1,w9,G,h9,ho.sub,by rw[A7];simp;omega,λt C=>?_,?_},hT'.imp 'o' λ_=>Iff.rfl,λc=>?_,hpos,hle,by rw[me,N];exact hrm▸rfl,'o'}
         ·rw[BD,BD];rfl
         ·rcases BN.mp C with C | C
          ·exact ho.tr t C
          ·rw[Bd.mp C];exact hnew
         ·refine EB.mpr {ho.apart,Ha _ _,λt C t' ht' c hc1 hc2=>?_}
          rw[Bd.mp ht'] at hc2;exact Y c hc2 ((R c).mpr (.inr ⟨t,C,hc1⟩))
         ·rw[BN,R c]
          constructor
          ·rintro ((h | ⟨t,C,h⟩) | h)
           ·exact .inl h
           ·exact .inr {t,by simp[C],h}
           ·exact .inr {⟨a,u,ways,s,x,y⟩,'d',h}
          ·rintro (h | ⟨t,C,h⟩)
           ·exact .inl (.inl h)
           ·rcases BN.mp C with C | C
            ·exact .inl (.inr ⟨t,C,h⟩)
            ·rw[Bd.mp C] at h;exact .inr h
       ·exact pn _ _ {z,T,I,M,_,_,_,_,_,_,rfl,ho,hT.imp 'o' λ_=>Iff.rfl,R,U,hr2,N,'o'}
     ·exact pn _ _ {z,T,I,M,_,_,_,_,_,_,rfl,ho,hT.imp 'o' λ_=>Iff.rfl,R,U,hr2,N,'o'}
    ·exact pn _ _ {z,T,I,M,_,_,_,_,_,_,rfl,ho,hT.imp 'o' λ_=>Iff.rfl,R,U,hr2,N,'o'}
   ·obtain⟨z,T,I,M,y11,y12,y13,y14,y15,A,er,ho,hT,R,U,hr2,N,hst⟩:=W
    subst er;rw[bC,As] at hst;simp! [Fv,aq az,aq bS,aq bd,di,aO];exact hq o r f z g ho (N▸hr2) 'o'
instance dx(d:Int):Int:=if d=0 then 1 else if d=2 then -1 else 0
instance dy(d:Int):Int:=if d=1 then 1 else if d=3 then -1 else 0
instance Dir(d:Int):Prop:=0<=d/\d<4
def Dir.cases{d:Int}(h:Dir d):d=0\/d=1\/d=2\/d=3:=by obtain⟨b,a⟩:=h;omega
def GV:List D->Ar Unit D:=BC 2 2 Mn.1
def mf{d:Int}(f:Dir d)(g:Q (Af (p.1+dx d,p.2+dy d)) ()):Aa (GV [Af p,.int d]) Q E:=by
 refine aF rfl 'z' ?_;delta Mn;dsimp only;have d:∀a b c e:Int,DU [.int a,.int b,.int c,.int e]=some (.lst [.int a,.int b,.int c,.int e]):=λa b c e=>bi rfl 'd'
 rcases f.cases with r | r | r | r<;>subst r<;>simp?! [ar,Af,AR,pt0,pt1,d,at0,at1,at2,at3,BL,AU,aO]<;>exact g
def IZ:List D->Ar Unit D:=BC 2 2 Mr.1
def Bl(ways:Str)(d:Int):Bool:=ways == "any"||ways == (if d % 2=0 then "row" else "column")
def uM{w h s d:Int}{a:Str}(g:Dir d)(c:Q (.bl (Bl a d)) ()):Aa (IZ [kd w h a s,.int d]) Q E:=by
 refine aF rfl 'z' ?_;delta Mr;dsimp only;have b:(0:Int)<2:=by decide
 have e:∀{d:Int},iOp (λ_ j=>0<j) (λi j=>D.int (i % j)) (.int d) (.int 2)=some (.int (d % 2)):=λ{d}=>gP (C:=λ_ j=>0<j) b
 simp?! [ar,kd,AR,at2,eu,fm,e];by_cases f:a == ("any" : Str)
 ·simp?! [f,ar]
  have:Bl a d=true:=by simp[Bl,f]
  rw[this] at c;exact c
 ·have b:(a == ("any" : Str))=false:=by simpa using f
  simp?! [b,ar];have e:Bl a d=(a == (if d % 2=0 then "row" else "column")):=by simp[Bl,b]
  rw[e] at c;rcases g.cases with r | r | r | r<;>subst r<;>exact{.inl aE,c}
instance Tr.ahead(t:Tr)(d:Int):List Aj:=AL t.w t.h (t.x+dx d,t.y+dy d)
instance Tr.to(t:Tr)(d:Int):Tr:={ t with x:=t.x+dx d,y:=t.y+dy d }
def EK(A4 A3:Int)(sh:List Aj)(t:Tr)(d:Int):Prop:=Bl t.ways d=true/\∀c∈t.ahead d,c∉sh/\0<=c.1/\c.1<A4/\0<=c.2/\c.2<A3
def Cr(t u:Tr)(d:Int):Prop:=∃c∈u.cells,c∈t.ahead d
inductive Eb(ts:List Tr)(d:Int)(n:Nat):Nat->Prop where
 | self:Eb ts d n n
 | more {m k:Nat} {t u:Tr}:Eb ts d n m->ts[m]?=some t->ts[k]?=some u->Cr t u d->Eb ts d n k
theorem iq(c:Aj):∀l:List Aj,By (Af c) (l.map Af)=some (decide (c∈l))
 | []=>by simp[By]
 | a::l=>by
   show ((D.eqq (Af a) (Af c)).bind λb=>(By (Af c) (l.map Af)).map λx=>b||x)=_;rw[iq c l];have e:D.eqq (Af a) (Af c)=some (decide (a=c)):=by
    show (D.eqq (.int a.1) (.int c.1)).bind (λx=>(D.eqL [.int a.2] [.int c.2]).map λy=>x&&y)=_;rw[eh];show (D.eqL [.int a.2] [.int c.2]).map (λy=>(a.1 == c.1)&&y)=_;show ((D.eqq (.int a.2) (.int c.2)).bind (λx=>(D.eqL [] []).map λy=>x&&y)).map (λy=>(a.1 == c.1)&&y)=_;rw[eh];show some ((a.1 == c.1)&&((a.2 == c.2)&&true))=_;rw[Option.some.injEq,FK];simp[Prod.ext_iff]
   rw[e];simp only[Eg,BA,Option.some.injEq];by_cases h:a=c
   ·subst h;simp
   ·have b:c≠a:=λz=>h z.symm
    simp[h,b,AE]
theorem mh(k:Nat):∀l:List Nat,By (.int k) (l.map λj:Nat=>D.int j)=some (decide (k∈l))
 | []=>by simp[By]
 | a::l=>by
   show ((D.eqq (.int a) (.int k)).bind λb=>(By (.int k) (l.map λj:Nat=>D.int j)).map λx=>b||x)=_;rw[mh k l];simp only[eh,Eg,BA,Option.some.injEq];by_cases h:a=k
   ·subst h;simp
   ·have c:k≠a:=λz=>h z.symm
    have b:((a:Int) == (k:Int))=false:=by rw[beq_eq_false_iff_ne];omega
    rw[b];simp[c,AE]
def fG{neg:Bool}{c:Aj}{l:List Aj}:EJ neg (Af c) (.tup (l.map Af))=some (.bl (if neg then !decide (c∈l) else decide (c∈l)))/\EJ neg (Af c) (.lst (l.map Af))=some (.bl (if neg then !decide (c∈l) else decide (c∈l))):=by
 have a:D.depL (l.map Af)<=30:=Az (cw l9 l) 'z';constructor
 ·show (if D.depL (l.map Af)<=30 then (By (Af c) (l.map Af)).map λx=>D.bl (if neg then !x else x) else none)=_
  rw[if_pos a,iq];rfl
 ·show (if D.depL (l.map Af)<=30 then (By (Af c) (l.map Af)).map λx=>D.bl (if neg then !x else x) else none)=_
  rw[if_pos a,iq];rfl
def ir{b:Bool}{k:Nat}{l:List Nat}:EJ b (.int k) (.lst (l.map λj:Nat=>D.int j))=some (.bl (if b then !decide (k∈l) else decide (k∈l))):=by
 have c:D.depL (l.map λj:Nat=>D.int j)<=30:=Az (cw (n:=0) (λa=>by simp[D.dep]) l) 'z';show (if D.depL (l.map λj:Nat=>D.int j)<=30 then (By (.int k) (l.map λj:Nat=>D.int j)).map λx=>D.bl (if b then !x else x) else none)=_;rw[if_pos c,mh];rfl
def cy{a:List Tr}{m:Nat}{t:Tr}(h:a[m]?=some t):AR (.tup (a.map Tr.kind)) (.int m)=some t.kind:=(eg (bS t) 'o' (by rw[Dc,AK,h];rfl)).2
def eL{a:List Tr}{m:Nat}{t:Tr}(h:a[m]?=some t):AR (.tup (a.map Tr.place)) (.int m)=some t.place:=(eg (bd t) 'o' (by rw[Dc,AK,h];rfl)).2
def AA(g:List Nat):List D:=g.map λj:Nat=>D.int j
def bT(g:List Nat):D.immL (AA g)=true:=aq (λa=>ag) g
structure Cfg(A4 A3:Int)(sh:List Aj)(ts:List Tr):Prop where
 few:ts.length<=12
 sh:sh.length<=81
 wh:∀t∈ts,0<=t.w/\t.w<=9/\0<=t.h/\t.h<=9
def mi{S:Type}{E:AG->S->Prop}{b:S}{Q:D->S->Prop}{l T:List Aj}{x:Sl}{d:D}(g:d=.tup (T.map Af)\/d=.lst (T.map Af))(a:l.length<=1000)(f:Q (.bl (decide (∃c∈l,c∈T))) b) :
 Aa (Dm S (gN 0) (Ho S) (fP S (o2 (EJ false) (vr 0) (vr 1))) (l.map Af) [] [x,.bor d] b) (λr a=>Aa (Au (E9 (λe=>e.any id) [D.lst r]) a) Q E) E:=by
 refine cc (IX T) (λZ=>∃x,Z=[x,.bor d]) {_,rfl} (λe h Z hI135=>?_) (aY (by rw[Ai];omega)) ?_
 ·obtain⟨a,e⟩:=hI135
  subst e;obtain⟨c,a,rfl⟩:=BF.mp h;refine{_,rfl,{_,rfl},⟨rfl,rfl⟩,?_};have a:EJ false (Af c) d=some (.bl (decide (c∈T))):=by
   rcases g with r | r
   ·rw[r];exact fG.1
   ·rw[r];exact fG.2
  simp! [a];rfl
 ·rw[md]
  simp! [E9,dZ,BA];have a:(l.map λc=>decide (c∈T)).any id=decide (∃c∈l,c∈T):=by
   rw[FK,List.any_map,List.any_eq_true,decide_eq_true_eq];simp
  rw[a];exact f
def I0:List D->Ar Unit D:=BC 14 4 (Mv Fc GV IZ).1
def mj{g:List Nat}{j m:Nat}(h:g[j]?=some m):AR (.lst (AA g)) (.int j)=some (.int m):=(eg ag 'o' (by rw[Dc];unfold AA;rw[AK,h];rfl)).1
def ml(g:List Nat):Et (AA g)=some (g.map λj:Nat=>(j:Int)):=kF (f:=λj:Nat=>(j:Int)) g
open H in
def mm(g:List Nat):∃a:List Nat,(sortI (g.map λj:Nat=>(j:Int))).map D.int=AA a/\a.Perm g/\a.Pairwise (·<=·):=by
 have b:=PySem.W.sortI_perm (g.map λj:Nat=>(j:Int));have d:=PySem.W.sortI_rises (g.map λj:Nat=>(j:Int));have c:∀i∈sortI (g.map λj:Nat=>(j:Int)),((i.toNat:Nat):Int)=i:=λi a=>by
  obtain⟨j,_,e⟩:=BF.mp (b.mem_iff.mp a);omega
 refine{(sortI (g.map λj:Nat=>(j:Int))).map Int.toNat,?_,?_,?_}
 ·unfold AA
  rw[Df];refine List.map_congr_left λi a=>?_
  show D.int i=D.int ((i.toNat:Nat):Int);rw[c i a]
 ·have:=b.map Int.toNat
  rw[Df] at this;refine this.trans (List.Perm.of_eq ?_);rw[show (Int.toNat ∘ λj:Nat=>(j:Int))=id from funext λj=>Dc j,List.map_id]
 ·rw[List.pairwise_map]
  exact d.imp λh=>Int.toNat_le_toNat h
def GW(A4 A3:Int)(sh:List Aj)(ts:List Tr)(d:Int)(n:Nat)(t:Tr):Prop:=
 t.s<0\/(∃m t',Eb ts d n m/\ts[m]?=some t'/\¬EK A4 A3 sh t' d)\/(t.s=0/\∃m,m≠n/\Eb ts d n m)
structure Bm(A4 A3:Int)(sh:List Aj)(ts:List Tr)(d:Int)(n:Nat)(g:List Nat):Prop where
 nd:g.Nodup
 up:g.Pairwise (·<=·)
 all:∀m,m∈g↔Eb ts d n m
 lt:∀m∈g,m<ts.length
 ok:∀m∈g,∀t,ts[m]?=some t->EK A4 A3 sh t d
 str:∀t,ts[n]?=some t->¬t.s<0/\(t.s=0->∀m∈g,m=n)
instance muS(Z:Ae):Nat:=match (Z[9]?:Option Sl) with
 | some (Sl.bor (D.int a))=>20-a.toNat
 | _=>0
theorem cz:∀(N:Nat) (g:List Nat),g.Nodup->(∀m∈g,m<N)->g.length<=N
 | 0,g,_,h=>by
   cases g with
   | nil=>exact Ap _
   | cons a g=>exact absurd (h a 'd') (Fj _)
 | N+1,g,b,h=>by
   by_cases d:N∈g
   ·have c:=cz N (g.erase N) (b.erase N) λm a=>by
     have:=h m (List.mem_of_mem_erase a);have e:m≠N:=λz=>by subst z;exact(List.Nodup.not_mem_erase b) a
     omega
    rw[List.length_erase_of_mem d] at c;omega
   ·have c:=cz N g b λm a=>by
     have:=h m a;have e:m≠N:=λz=>by subst z;exact d a
     omega
    omega
def CV(A4 A3:Int)(c:Aj):Bool:=(decide (0<=c.1)&&decide (c.1<A4))&&(decide (0<=c.2)&&decide (c.2<A3))
def Ja(A4 A3:Int):D->D
 | .tup [.int x,.int y]=>.bl (CV A4 A3 (x,y))
 | _=>.non
def uN(a b:Int)(l:List Aj):(l.map Af).map (Ja a b)=l.map λc=>.bl (CV a b c):=by rw[Df];rfl
def uO{S:Type}{E:AG->S->Prop}{d:S}{Q:D->S->Prop}{l:List Aj}{x y:Sl}{b a:Int}(c:l.length<=1000)(g:Q (.bl (l.all (CV b a))) d) :
 Aa (Dm S (gT 2 (CG (gN 0) (CG (gN 1) EI))) (Ho S) (Im S (GK S (AU λi j=>.bl (decide (i<=j))) (AU λi j=>.bl (decide (i<j))) (fP S (cn (.int 0))) (fP S (vr 0)) (fP S (vr 2))) (GK S (AU λi j=>.bl (decide (i<=j))) (AU λi j=>.bl (decide (i<j))) (fP S (cn (.int 0))) (fP S (vr 1)) (fP S (vr 3)))) (l.map Af) [] [x,y,.bor (.int b),.bor (.int a)] d) (λr c=>Aa (Au (E9 (λe=>e.all id) [D.lst r]) c) Q E) E:=by
 refine cc (Ja b a) (λZ=>∃x y,Z=[x,y,.bor (.int b),.bor (.int a)]) {_,_,rfl} (λe h Z hI136=>?_) (aY (by rw[Ai];omega)) ?_
 ·obtain⟨f,c,i⟩:=hI136
  subst i;obtain⟨c,f,rfl⟩:=BF.mp h;refine{_,rfl,{_,_,rfl},⟨rfl,rfl⟩,?_};simp! [AU];have e:Ja b a (Af c)=.bl (CV b a c):=rfl;rw[e];delta CV;by_cases f:0<=c.1<;>by_cases i:c.1<b<;>by_cases e:0<=c.2<;>by_cases h:c.2<a<;>simp[f,i,e,h,aE]
 ·rw[uN]
  simp! [E9,dZ,BA];have e:(l.map λc=>CV b a c).all id=l.all (CV b a):=by rw[List.all_map];rfl
  rw[e];exact g
def wp_step{B I:Int}{N:List Aj}{l:List Tr}{n:Nat}{d:Int}{t0:Tr}{Q:D->Unit->Prop}{E:AG->Unit->Prop}(hc:Cfg B I N l)(hn:l[n]?=some t0)(hd:Dir d)(hN:GW B I N l d n t0->Q .non ())(hL:∀g:List Nat,Bm B I N l d n g->Q (.lst (AA g)) ()):Aa (I0 [An B I N l,Ak l,.int n,.int d]) Q E:=by
 refine aF rfl 'z' ?_;delta Mv;dsimp only;rw  [ar];simp! [An,Ak];rw  [ar];simp! [cy hn];have ks:∀t:Tr,AR t.kind (.int 3)=some (.int t.s):=λt=>rfl
 simp! [ks,AU];by_cases hs:t0.s<0
 ·rw[aA hs]
  simp!;exact hN (.inl hs)
 ·rw[ax hs]
  simp!;simp_all!;simp! [bi];simp_all!;simp!;rw  [ar];refine dh (λZ st=>∃(g:List Nat) (f:Nat) (x10 x11 G M:Sl),Z=[Sl.bor (An B I N l),.bor (Ak l),.bor (.int n),.bor (.int d),.bor (.int B),.bor (.int I),.bor (.tup (N.map Af)),.bor (.tup (l.map Tr.kind)),.own (.lst (AA g)),.bor (.int f),x10,x11,G,M]/\g.Nodup/\(∀m∈g,m<l.length/\Eb l d n m)/\n∈g/\f<=g.length/\(∀j m t,j<f->g[j]?=some m->l[m]?=some t->EK B I N t d/\∀k u,l[k]?=some u->Cr t u d->k∈g)) (λZ _=>muS Z) {[n],0,_,_,_,_,rfl,'d',λm o=>?_,'d','d',λj m t hj=>absurd hj (Fj _)} ?_
  ·rw[Bd.mp o]
   exact{(AQ.mp hn).1,.self}
  ·intro Z st hI P Zv0 pn pr pz
   obtain⟨g,f,x10,x11,G,M,rfl,nd,hg,Y,hat,C1⟩:=hI;have hgl:g.length<=l.length:=cz _ g nd λm o=>(hg m o).1
   have few:=hc.few;have gl:(AA g).length=g.length:=by unfold AA;rw[Ai]
   simp! [Cw,AU,gl];by_cases hlt:f < g.length
   ·rw[aA (show ((f:Nat):Int)<(g.length:Int) by omega),if_pos rfl]
    obtain⟨m,o⟩:∃m,g[f]?=some m:={_,AO hlt};have hmg:=Bq o;obtain⟨hmN,hmR⟩:=hg m hmg;obtain⟨t,O⟩:∃t,l[m]?=some t:={_,AO hmN};obtain⟨q1,q2,q3,q4⟩:=hc.wh t (Bq O);simp_all!;simp! [mj o];simp_all!;simp! [Ak,cy O,eL O];refine mf (p:=(t.x,t.y)) hd ?_;refine cL 'o' 'o' q1 q3 ?_;have ha:AL t.w t.h ((t.x,t.y).1+dx d,(t.x,t.y).2+dy d)=t.ahead d:=rfl;rw[ha];have ha81:(t.ahead d).length<=81:=bv q2 q4;simp! [aq az];simp_all!;simp! [cy O];refine uM hd ?_;by_cases hgo:Bl t.ways d=true
    ·rw[hgo]
     simp!;refine mi (.inl rfl) 'o' ?_;simp!;by_cases hsh:∃c∈t.ahead d,c∈N
     ·rw[aA hsh,if_pos rfl]
      refine hR_ _ _ ?_;refine pr _ _ (hN (.inr (.inl {m,t,hmR,O,λok=>?_})));obtain⟨c,h1,C⟩:=hsh;exact(ok.2 c h1).1 C
     ·rw[ax hsh]
      simp!;simp_all!;simp!;refine uO 'o' ?_;simp!;by_cases hin:(t.ahead d).all (CV B I)=true
      ·rw[hin]
       simp!;have hok:EK B I N t d:={hgo,λc hc'=>{λh=>hsh ⟨c,hc',h⟩,by
        have:=List.all_eq_true.mp hin c hc';simp[CV] at this;omega}}
       simp_all!;simp! [Cw,Ai];rw[bQ 'o' 'o'];refine aN (λk Z st'=>∃(q:List Nat) (G M:Sl),Z=[Sl.bor (An B I N l),.bor (Ak l),.bor (.int n),.bor (.int d),.bor (.int B),.bor (.int I),.bor (.tup (N.map Af)),.bor (.tup (l.map Tr.kind)),.own (.lst (AA q)),.bor (.int f),.bor (.int m),.own (.lst ((t.ahead d).map Af)),G,M]/\g <+: q/\q.Nodup/\(∀m∈q,m<l.length/\Eb l d n m)/\(∀k' u,k' < k->l[k']?=some u->Cr t u d->k'∈q)) 0 {g,_,_,rfl,List.prefix_refl _,nd,hg,λk' u h=>absurd h (Fj _)} (λk e Z st' hd' hI P2 pn2=>?_) λZ st' hI=>?_
       ·obtain⟨q,G,M,er,i,T,R,J⟩:=hI
        obtain⟨rfl,hkN⟩:=bD hd';rw[Dc] at hkN;subst er;rw[As] at J;obtain⟨u,hu⟩:∃u,l[k]?=some u:={_,AO hkN};obtain⟨p1,p2,p3,p4⟩:=hc.wh u (Bq hu);have hgl':q.length<=l.length:=cz _ q T λm o=>(R m o).1
        have k0:(0:Int)+(k:Int)=(k:Int):=by omega
        refine{_,rfl,?_};simp_all!;simp! [Ak,k0,cy hu,eL hu];refine cL (p:=(u.x,u.y)) 'o' 'o' p1 p3 ?_;have hu81:u.cells.length<=81:=bv p2 p4;have hcu:AL u.w u.h (u.x,u.y)=u.cells:=rfl;rw[hcu];have on:∀g:List Nat,AA g=g.map λj:Nat=>D.int j:=λ_=>rfl
        simp! [aq az,on,ir];by_cases hkg:k∈q
        ·rw[aA hkg]
         simp!;refine pn2 _ _ {q,_,_,rfl,i,T,R,λv u' h1 C h3=>?_};by_cases h4:v=k
         ·subst h4;exact hkg
         ·exact J v u' 'o' C h3
        ·rw[ax hkg]
         simp!;refine mi (.inr rfl) 'o' ?_;simp!;by_cases hh:∃c∈u.cells,c∈t.ahead d
         ·rw[aA hh,if_pos rfl]
          have im':D.immL (q.map λj:Nat=>D.int j)=true:=bT q;simp! [Bc,im'];refine{_,bB ag (by rw[Ai];omega),pn2 _ _ {q++[k],.bor (.int k),.own (.lst (u.cells.map Af)),?_,i.trans (List.prefix_append _ _),?_,?_,?_}}
          ·unfold AA
           rw[BD];rfl
          ·rw[FH]
           refine{T,'d',λa ha b hb e=>?_};rw[Bd.mp hb] at e;subst e;exact hkg ha
          ·intro m' U
           rcases BN.mp U with h | h
           ·exact R m' h
           ·rw[Bd.mp h]
            exact{hkN,.more hmR O hu hh}
          ·intro v u' h1 C h3
           by_cases h4:v=k
           ·subst h4;simp
           ·exact Ff _ (J v u' 'o' C h3)
         ·rw[ax hh]
          simp!;refine pn2 _ _ {q,_,_,rfl,i,T,R,λv u' h1 C h3=>?_};by_cases h4:v=k
          ·subst h4
           rw[hu] at C;cases C;exact absurd h3 hh
          ·exact J v u' 'o' C h3
       ·obtain⟨q,G,M,er,i,T,R,J⟩:=hI
        subst er;simp! [BL,AU];rw[As,bC,Dc] at J;refine pn _ _ {q,f + 1,_,_,_,_,rfl,T,R,i.mem Y,?_,λj m' t' hj U ht'=>?_} ?_
        ·have:=i.length_le;omega
        ·by_cases h5:j=f
         ·subst h5
          have e1:q[j]?=some m:=by
           obtain⟨r,rfl⟩:=i;rw[EW hlt];exact o
          rw[e1] at U;cases U;rw[O] at ht';cases ht';exact{hok,λk u h1 C=>J k u (AQ.mp h1).1 h1 C}
         ·have hj':j<f:=by omega
          have e1:g[j]?=some m':=by
           obtain⟨r,rfl⟩:=i;rwa [EW 'o'] at U
          obtain⟨z1,z2⟩:=C1 j m' t' hj' e1 ht';exact{z1,λk u h1 C=>i.mem (z2 k u h1 C)}
        ·show 20-((f:Int)+1).toNat<20-((f:Nat):Int).toNat
         omega
      ·have hin':(t.ahead d).all (CV B I)=false:=by simpa using hin
       rw[hin'];simp!;refine pr _ _ (hN (.inr (.inl {m,t,hmR,O,λok=>hin (List.all_eq_true.mpr λc hc'=>?_)})));have:=(ok.2 c hc').2;simp[CV];omega
    ·have hgo':Bl t.ways d=false:=by simpa using hgo
     rw[hgo'];simp!;exact pr _ _ (hN (.inr (.inl {m,t,hmR,O,λok=>hgo ok.1})))
   ·rw[ax (show ¬((f:Nat):Int)<(g.length:Int) by omega)]
    simp!;refine pz _ ?_;simp!;have W:∀m,m∈g↔Eb l d n m:=λm=>{λh=>(hg m h).2,λh=>by
     induction h with
     | self=>exact Y
     | more h1 C h3 h4 ih=>
       obtain⟨j,hj⟩:=DF ih;have hjl:j<g.length:=(AQ.mp hj).1;exact(C1 j _ _ 'o' hj C).2 _ _ h3 h4}
    have hokg:∀m∈g,∀t,l[m]?=some t->EK B I N t d:=λm o t O=>by
     obtain⟨j,hj⟩:=DF o;have hjl:j<g.length:=(AQ.mp hj).1;exact(C1 j m t 'o' hj O).1
    have fin:(t0.s=0->∀m∈g,m=n)->Aa (Hl Unit (fP Unit (o1 GP (cs (vr 8) nl))) [Sl.bor (An B I N l),.bor (Ak l),.bor (.int n),.bor (.int d),.bor (.int B),.bor (.int I),.bor (.tup (N.map Af)),.bor (.tup (l.map Tr.kind)),.own (.lst (AA g)),.bor (.int f),x10,x11,G,M] st) (λfl st=>match fl with
     | .rt d=>Q d st
     | .nx _=>Q .non st
     | _=>False) E:=λhz=>by
     obtain⟨q,e1,e2,e3⟩:=mm g;have os:GP [.lst (AA g)]=some (.lst (AA q)):=by
      show (Et (AA g)).bind (λns=>if ns.length<64 then some (D.lst ((sortI ns).map D.int)) else none)=_;rw[ml];show (if (g.map λj:Nat=>(j:Int)).length<64 then some (D.lst ((sortI (g.map λj:Nat=>(j:Int))).map D.int)) else none)=_;rw[if_pos (by rw[Ai];omega),e1]
     simp! [os,bT];exact hL q {e2.symm.nodup nd,e3,λm=>by rw[e2.mem_iff];exact W m,λm o=>(hg m (e2.mem_iff.mp o)).1,λm o=>hokg m (e2.mem_iff.mp o),λt O=>by
      rw[hn] at O;cases O;exact{hs,λz m o=>hz z m (e2.mem_iff.mp o)}}
    rw  [ar];simp! [Cw,gl,AU,cy hn,ks,cx];by_cases A:1<g.length
    ·rw[aA (show (1:Int)<(g.length:Int) by omega)]
     simp!;by_cases hz:t0.s=0
     ·have hz':(t0.s == 0)=true:=by simpa using hz
      rw[hz',if_pos rfl];refine hN (.inr (.inr {hz,?_}));cases g with
      | nil=>simp at A
      | cons a g=>
        cases g with
        | nil=>simp at A
        | cons b g=>
          by_cases ha:a=n
          ·refine{b,λe=>?_,(W b).mp 'd'}
           rw[ha,e] at nd;simp at nd
          ·exact{a,ha,(W a).mp 'd'}
     ·have hz':(t0.s == 0)=false:=by simpa using hz
      rw[hz'];simp!;have:=fin λz=>absurd z hz
      revert this;simp!;exact id
    ·rw[ax (show ¬(1:Int)<(g.length:Int) by omega)]
     simp!;have:=fin λ_ m o=>by
      match g,A,Y,o with
      | [a],_,Y,o=>rw[Bd.mp o,Bd.mp Y]
      | a::b::g,A,_,_=>simp at A
     revert this;simp!;exact id
def AW(ts:List Tr)(g:List Nat)(d:Int):List Tr:=ts.mapIdx λi t=>if i∈g then t.to d else t
def bj{g:List Nat}{d:Int}{i:Nat}:(AW a g d)[i]?=(a[i]?).map λt=>if i∈g then t.to d else t:=by
 delta AW;rw[List.getElem?_mapIdx]
def bU{g:List Nat}{d:Int}:(AW a g d).length=a.length:=by delta AW;simp
def mo{d:Int}:AW a [] d=a:=by
 apply FJ;intro i;rw[bj];cases a[i]?<;>simp
def uP{g:List Nat}{d:Int}:(AW a g d).map Tr.kind=a.map Tr.kind:=by
 apply FJ;intro i;rw[AK,AK,bj];cases a[i]? with
 | none=>rfl
 | some t=>by_cases h:i∈g<;>simp[h]<;>rfl
def bw{a b:Int}(h:ts'.map Tr.kind=d.map Tr.kind):An a b c ts'=An a b c d:=by delta An;rw[h]
def uQ{g:List Nat}{d:Int}(h:t∈AW c g d):∃u∈c,t.w=u.w/\t.h=u.h/\t.ways=u.ways/\t.s=u.s:=by
 obtain⟨i,a⟩:=DF h;rw[bj] at a;cases q:c[i]? with
 | none=>rw[q] at a;cases a
 | some u=>
   rw[q] at a;have a:(if i∈g then u.to d else u)=t:=Option.some.inj a;refine{u,Bq q,?_};by_cases b:i∈g
   ·rw[if_pos b] at a;subst a;exact⟨rfl,rfl,rfl,rfl⟩
   ·rw[if_neg b] at a;subst a;exact⟨rfl,rfl,rfl,rfl⟩
def Cfg.moved{A4 A3:Int}{sh:List Aj}{ts:List Tr}{g:List Nat}{d:Int}(h:Cfg A4 A3 sh ts):Cfg A4 A3 sh (AW ts g d) where
 few:=by rw[bU];exact h.few
 sh:=h.sh
 wh:=λt ht=>by
  obtain⟨u,hu,e1,e2,_⟩:=uQ ht;rw[e1,e2];exact h.wh u hu
def mq{g:List Nat}{d:Int}{k:Nat}(c:a[k]?=some t):((AW a g d).map Tr.place).set k (t.to d).place=(AW a (g++[k]) d).map Tr.place:=by
 apply FJ;intro i;rw[List.getElem?_set,AK,AK,bj,bj,Ai,bU];have b:k<a.length:=(AQ.mp c).1;by_cases h:k=i
 ·subst h
  rw[if_pos rfl,if_pos b,c];simp
 ·rw[if_neg h]
  cases a[i]? with
  | none=>rfl
  | some u=>
    have b:i≠k:=λz=>h z.symm
    simp[b]
inductive Bi(A4 A3:Int)(sh:List Aj)(d:Int)(n:Nat)(ts:List Tr):Nat->List Tr->Prop where
 | zero:Bi A4 A3 sh d n ts 0 ts
 | succ {k:Nat} {ts':List Tr} {g:List Nat}:Bi A4 A3 sh d n ts k ts'->Bm A4 A3 sh ts' d n g->Bi A4 A3 sh d n ts (k+1) (AW ts' g d)
theorem Bi.len{c e:Int}{d:Int}{n:Nat}{k:Nat}(h:Bi c e f d n b k ts'):ts'.length=b.length:=by
 induction h with
 | zero=>rfl
 | succ _ _ a=>rw[bU];exact a
theorem Bi.kind{c e:Int}{d:Int}{n:Nat}{k:Nat}(h:Bi c e f d n b k ts'):ts'.map Tr.kind=b.map Tr.kind:=by
 induction h with
 | zero=>rfl
 | succ _ _ a=>rw[uP];exact a
theorem Bi.cfg{b a:Int}{d:Int}{n:Nat}{k:Nat}(h:Bi b a c d n e k ts')(f:Cfg b a c e):Cfg b a c ts':=by
 induction h with
 | zero=>exact f
 | succ _ _ d=>exact d.moved
def Gp:List D->Ar Unit D:=BC 10 3 (Mz I0 GV).1
def Fd(n:Nat)(d many:Int):D:=.tup [.int n,.int d,.int many]
open H in
def uS{m h:Int}{n:Nat}{d b:Int}(j:Cfg m h r l)(B:n<l.length)(G:Dir d)(c:0<=b)(a:b<=1000)(C:∀(k:Nat) a t,(k:Int)<b->Bi m h r d n l k a->a[n]?=some t->GW m h r a d n t->Q (.int k) ())(J:∀a,Bi m h r d n l b.toNat a->Q (Ak a) ()):Aa (Gp [An m h r l,Ak l,Fd n d b]) Q E:=by
 refine aF rfl 'z' ?_;unfold Mz;dsimp only;rw  [ar];simp! [Fd];rw  [ar];simp!;rw[bQ 'o' c];refine l8 (λi Z f=>∃(a:List Tr) (y A z o:Sl),Z=[Sl.bor (An m h r l),.bor (Ak a),.bor (Fd n d b),.bor (.int n),.bor (.int d),.bor (.int b),y,A,z,o]/\Bi m h r d n l i a) 0 {l,_,_,_,_,rfl,.zero} (λi e Z f s v P E u=>?_) λZ f v=>?_
 ·obtain⟨a,y,A,z,o,x,c⟩:=v
  obtain⟨rfl,g⟩:=bD s;subst x;rw[As] at c;have g:=c.cfg j;obtain⟨t,q⟩:∃t,a[n]?=some t:={_,AO (by rw[c.len];exact B)};have j:(0:Int)+(i:Int)=(i:Int):=by omega
  refine{_,rfl,?_};simp_all!;simp! [j];rw[<-bw c.kind];refine wp_step g q G (λj=>?_) λg B=>?_
  ·simp!
   simp_all!;simp! [CT,D.isNon];exact u _ _ (C i a t 'o' c q j)
  ·have u:(D.lst (AA g)).flat=true:=bT g
   simp! [bT];simp_all!;simp! [CT,D.isNon];simp_all!;simp! [Ak,GL,aq bd];simp_all!;simp!;refine aN (λj Z f=>∃(o:Sl),Z=[Sl.bor (An m h r a),.bor (Ak a),.bor (Fd n d b),.bor (.int n),.bor (.int d),.bor (.int b),.bor (.int i),.bor (.lst (AA g)),.own (.lst ((AW a (g.take j) d).map Tr.place)),o]) 0 {_,by rw[List.take_zero,mo];rfl} (λj e Z f s v P2 C=>?_) λZ f v=>?_
   ·obtain⟨o,x⟩:=v
    unfold AA at s;rw[AK] at s;cases q:g[j]? with
    | none=>rw[q] at s;cases s
    | some k=>
      rw[q] at s;cases s;subst x;rw[As];have f:=Bq q;have e:=B.lt k f;obtain⟨u,s⟩:∃u,a[k]?=some u:={_,AO e};have i:k∉g.take j:=λI=>by
       obtain⟨f,e⟩:=DF I;rw[List.getElem?_take] at e;split at e
       ·rename_i I
        have M:j<g.length:=(AQ.mp q).1;have:=(List.getElem?_inj (by omega:f < g.length) B.nd).mp (e.trans q.symm);omega
       ·cases e
      have f:AR (.lst ((AW a (g.take j) d).map Tr.place)) (.int k)=some u.place:=(eg (bd u) 'o' (by rw[Dc,AK,bj,s];simp[i])).1;refine{_,rfl,?_};simp! [f];refine mf (p:=(u.x,u.y)) G ?_;simp! [Bc,aq bd];refine{k,k,rfl,?_,az _,C _ _ {.bor (.int k),?_}}
      ·unfold CQ
       rw[if_pos 'o',if_pos (by rw[Ai,bU];omega)];simp
      ·have e:Af ((u.x,u.y).1+dx d,(u.x,u.y).2+dy d)=(u.to d).place:=rfl
       rw[e,mq s,As,Cc,q];rfl
   ·obtain⟨o,x⟩:=v
    subst x;have e:(AA g).length=g.length:=by unfold AA;rw[Ai]
    rw[As,e,CC];simp! [Fv,aq bd];rw[bw c.kind];exact E _ _ {AW a g d,_,_,_,_,rfl,by rw[As];exact .succ c B}
 ·obtain⟨a,y,A,z,o,x,c⟩:=v
  subst x;rw[As,bC] at c;have:own? [Sl.bor (An m h r l),.bor (Ak a),.bor (Fd n d b),.bor (.int n),.bor (.int d),.bor (.int b),y,A,z,o] 1=some (Ak a):=by
   show (if (Ak a).imm=true then some (Ak a) else none)=_;rw[if_pos (by unfold Ak;rw[ao];exact aq bd _)]
  simp only[wp_sRetV];exact{_,this,J a c}
def EU:Nat->List D->Ar Unit D
 | 0=>JK
 | n+1=>BC 2 2 (Gn (EU n)).1
def Nf{i:Int}:BZ .dict (.int i)=false:=rfl
def Ng{i:Int}:BZ .list (.int i)=false:=rfl
def Nh{i:Int}:BZ .tuple (.int i)=false:=rfl
def Ni{i:Int}:BZ .str (.int i)=false:=rfl
def Nj{i:Int}:BZ .int (.int i)=true:=rfl
def Nk{i:Int}:BZ .bool (.int i)=false:=rfl
def Nl{i:Str}:BZ .dict (.str i)=false:=rfl
def Nm{i:Str}:BZ .list (.str i)=false:=rfl
def Nn{i:Str}:BZ .tuple (.str i)=false:=rfl
def No{i:Str}:BZ .str (.str i)=true:=rfl
def fH{n:Nat}{b:Bool}(j:d2.isNon=false)(f:BZ .dict d2=false)(d:BZ .list d1=b)(c:BZ .list d2=b)(a:BZ .tuple d1=!b)(e:BZ .tuple d2=!b)(m:Cw [d1]=some (.int l.length))(g:Cw [d2]=some (.int l.length))(z:JH [d1,d2]=some (Dz l l))(i:∀x∈l,∀{Q:D->Unit->Prop} {E:AG->Unit->Prop},Q (.bl true) ()->Aa (EU n [x,x]) Q E)(o:l.length<=sizeLine)(h:Q (.bl true) ()):Aa (EU (n+1) [d1,d2]) Q E:=by
 refine aF rfl 'z' ?_;delta Gn;dsimp only;rw  [ar];simp! [CT,j];rw  [ar];simp! [f];cases b<;>(
  rw  [ar];simp! [d,c,a,e];rw  [ar];simp! [d,c,Np,Nq,Nr,Nt,cg];rw  [ar];simp! [a,e,m,g,Np,Nq,Nr,Nt,cg];simp! [z];refine cc (λ_=>.bl true) (λZ=>∃x y,Z=[x,y]) {_,_,rfl} (λd b Z hI137=>?_) (by delta Dz;rw[List.length_zipWith];omega) ?_
  ·obtain⟨x,y,e⟩:=hI137
   subst e;obtain⟨x,a,rfl⟩:=rJ b;refine{_,rfl,{_,_,rfl},⟨rfl,rfl⟩,?_};simp?! [ar];exact i x a (by first | exact rfl | exact⟨rfl,rfl⟩ | exact⟨rfl,rfl,rfl⟩)
  ·simp?! [E9,kH,BA,ar]
   rw[show ((Dz l l).map λ_=>true).all id=true by simp];exact h)
theorem mr:∀(n:Nat) {d:D} {Q:D->Unit->Prop} {E:AG->Unit->Prop},d.dep<n->d.lw=true->Q (.bl true) ()->Aa (EU n [d,d]) Q E
 | 0,d,Q,E,h,_,_=>absurd h (Fj _)
 | n+1,d,Q,E,f,a,h=>by
   have c:∀{l:List D},D.lwL l=true->D.depL l<n->∀x∈l,∀{Q:D->Unit->Prop} {E:AG->Unit->Prop},Q (.bl true) ()->Aa (EU n [x,x]) Q E:=λ{l} b f x g=>mr n (Cb (kG g) f) (fo.mp b x g)
   have e:∀{l:List D},(D.lwL l&&decide (l.length<=sizeLine))=true->D.lwL l=true/\l.length<=sizeLine:=λa=>by simpa using a
   cases d with
   | bl b=>exact nomatch (show false=true from a)
   | dct k v=>exact nomatch (show false=true from a)
   | fd _ _=>exact nomatch (show false=true from a)
   | tup l=>exact fH rfl rfl rfl rfl rfl rfl rfl rfl rfl (c (e a).1 (Gv f)) (e a).2 h
   | lst l=>exact fH rfl rfl rfl rfl rfl rfl rfl rfl rfl (c (e a).1 (Gv f)) (e a).2 h
   | fl l=>exact fH rfl rfl rfl rfl rfl rfl rfl rfl rfl (c (e a).1 (Gv f)) (e a).2 h
   | non=>
     refine aF rfl 'z' ?_;delta Gn;dsimp only;rw  [ar];simp! [CT,D.isNon];exact h
   | int i=>
     refine aF rfl 'z' ?_;delta Gn;dsimp only;rw  [ar];simp! [CT,D.isNon,Nf,Ng,Nh,Ni,Nj,Nk,Nl,Nm,Nn,No];rw  [ar];simp! [CT,D.isNon,Nf,Ng,Nh,Ni,Nj,Nk,Nl,Nm,Nn,No];rw  [ar];simp! [CT,D.isNon,Nf,Ng,Nh,Ni,Nj,Nk,Nl,Nm,Nn,No];rw  [ar];simp! [CT,D.isNon,Nf,Ng,Nh,Ni,Nj,Nk,Nl,Nm,Nn,No];simp! [Nf,Ng,Nh,Ni,Nj,Nk,Nl,Nm,Nn,No,Np,Nq,Nr,beq_self_eq_true,cg];exact h
   | str i=>
     refine aF rfl 'z' ?_;delta Gn;dsimp only;rw  [ar];simp! [CT,D.isNon,Nf,Ng,Nh,Ni,Nj,Nk,Nl,Nm,Nn,No];rw  [ar];simp! [CT,D.isNon,Nf,Ng,Nh,Ni,Nj,Nk,Nl,Nm,Nn,No];rw  [ar];simp! [CT,D.isNon,Nf,Ng,Nh,Ni,Nj,Nk,Nl,Nm,Nn,No];rw  [ar];simp! [Nf,Ng,Nh,Ni,Nj,Nk,Nl,Nm,Nn,No,Np,Nq,Nr,beq_self_eq_true,cg];exact h
def GX:List D->Ar Unit D:=BC 6 2 K7.1
def ms{w h:Int}{a:Str}{s:Int}(b:w<=30)(d:h<=30)(c:0<=w)(j:0<=h)(l:Q (.lst ((AL w h p).map Af)) ()):Aa (GX [kd w h a s,Af p]) Q E:=by
 refine aF rfl 'z' ?_;delta K7;dsimp only;simp_all!;simp! [Af];simp_all!;simp! [aQ];simp_all!;simp! [kd,AR,at0,at1];rw[bQ 'o' c];refine aN (λi Z b=>∃x,Z=[.bor (kd w h a s),.bor (Af p),.bor (.int p.1),.bor (.int p.2),.own (.lst (((List.range i).flatMap (CU h p)).map Af)),x]) 0 {_,rfl} (λi d Z b f c P g=>?_) λZ b c=>?_
 ·obtain⟨x,e⟩:=c
  obtain⟨rfl,b⟩:=bD f;subst e;have a:∀i:Nat,D.immL (((List.range i).flatMap (CU h p)).map Af)=true:=λi=>aq az _
  refine{_,rfl,?_};simp! [Bc,a,kd,AR,at0,at1];rw[bQ 'o' j];refine cc (λd=>match d with | .int j=>Af (p.1+(i:Int),p.2+j) | _=>.non) (λZ=>∃x,Z=[x,.bor (.int p.1),.bor (.int (0+(i:Int))),.bor (.int p.2)]) {_,rfl} (λd f Z hI138=>?_) (aY (by rw[bC];omega)) ?_
  ·obtain⟨x,e⟩:=hI138
   subst e;obtain⟨j,b⟩:=DF f;obtain⟨rfl,m⟩:=bD b;refine{_,rfl,{_,rfl},⟨rfl,rfl⟩,?_};simp! [Af,BL,AU,aO];simp
  ·have e:(Dk 0 h.toNat).map (λd=>match d with | .int j=>Af (p.1+(i:Int),p.2+j) | _=>D.non)=(CU h p i).map Af:=by
    unfold Dk CU;rw[Df,Df];refine List.map_congr_left λj _=>?_
    simp[Af]
   rw[e];refine{_,eI (aq az _) ?_,g _ _ {.bor (.int (0+(i:Int))),?_}}
   ·rw[Ai,Ai,List.length_flatMap]
    unfold CU;simp only[Ai,Ef,List.map_const',List.sum_replicate_nat];have:i*h.toNat<=29*30:=ip 'o' 'o';omega
   ·rw[F2,Fh,BD]
    simp[Af,kd]
 ·obtain⟨x,e⟩:=c
  subst e;rw[bC,As];have a:∀i:Nat,D.immL (((List.range i).flatMap (CU h p)).map Af)=true:=λi=>aq az _
  simp! [a];exact l
def iw{α:Type}{P:List α->Prop}(nil:P [])(append_singleton:∀l a,P l->P (l++[a]))(l:List α):P l:=by
 have h:∀l:List α,P l.reverse:=λl=>by
  induction l with
  | nil=>exact nil
  | cons a l ih=>rw[GA];exact append_singleton _ _ ih
 have:=h l.reverse;rwa [List.reverse_reverse] at this
def B4(W:List (Aj×Int))(c:Aj):Option Int:=(W.reverse.find? λp=>decide (p.1=c)).map (·.2)
def uT:B4 [] c=none:=rfl
def mw{v:Int}:B4 (W++[(c0,v)]) c=if c0=c then some v else B4 W c:=by
 delta B4;rw[List.reverse_append];show ((((c0,v)::W.reverse).find? λp=>decide (p.1=c))).map (·.2)=_;rw[F6];by_cases h:c0=c
 ·simp[h]
 ·simp[h]
def uU(h:∀p∈W,p.1≠c):B4 W c=none:=by
 delta B4;rw[List.find?_eq_none.mpr (λp a=>by simpa using h p (List.mem_reverse.mp a))];rfl
def fJ{W V:List (Aj×Int)}{c:Aj}:B4 (W++V) c=(B4 V c).or (B4 W c):=by
 delta B4;rw[List.reverse_append,List.find?_append];cases V.reverse.find? (λp=>decide (p.1=c))<;>simp
def iy{l:List Aj}{c:Aj}{v:Int}:B4 (l.map λq=>(q,v)) c=if c∈l then some v else none:=by
 induction l using iw with
 | nil=>rfl
 | append_singleton l a ih=>
   rw[BD];show B4 ((l.map λq=>(q,v))++[(a,v)]) c=_;rw[mw,ih];by_cases h:a=c
   ·subst h;simp
   ·have h':c≠a:=λz=>h z.symm
    simp[h,h']
theorem mx:∀{c f:List D},c.length=f.length->AC k c (List.zipWith (λd u=>if AN d=some k' then v else u) c f)=if k=k' then (AC k c f).map λ_=>v else AC k c f
 | [],[],_=>by simp[AC]
 | a::c,b::f,h=>by
   show AC k (a::c) ((if AN a=some k' then v else b)::List.zipWith _ c f)=_;unfold AC;by_cases e:AN a=some k
   ·rw[if_pos e,if_pos e,e]
    by_cases z:k=k'
    ·subst z;simp
    ·simp[z]
   ·rw[if_neg e,if_neg e];exact mx (by simpa using h)
 | [],_::_,h=>by cases h
 | _::_,[],h=>by cases h
theorem my:∀{c d:List D},c.length=d.length->AC k (c++[AD k']) (d++[v])=(AC k c d).or (if k'=k then some v else none)
 | [],[],_=>by
   show AC k [AD k'] [v]=_;unfold AC;rw[cY];by_cases e:k'=k
   ·simp[e,AC]
   ·simp[e,AC]
 | a::c,b::d,h=>by
   show AC k (a::(c++[AD k'])) (b::(d++[v]))=_;unfold AC;by_cases e:AN a=some k
   ·rw[if_pos e,if_pos e];rfl
   ·rw[if_neg e,if_neg e];exact my (by simpa using h)
 | [],_::_,h=>by cases h
 | _::_,[],h=>by cases h
open H in
def uV(h:a.length=b.length):AC k (AV k' v a b).1 (AV k' v a b).2=if k'=k then some v else AC k a b:=by
 delta AV;split
 ·rename_i c
  rw[mx h];by_cases e:k'=k
  ·subst e
   obtain⟨d,f⟩:=Option.isSome_iff_exists.mp c;rw[f];simp
  ·have e':k≠k':=λz=>e z.symm
   simp[e,e']
 ·rename_i c
  rw[my h];by_cases e:k'=k
  ·subst e
   have d:AC k' a b=none:=by simpa using c
   rw[d];simp
  ·simp[e]
def Ds(d:D)(W:List (Aj×Int)):Prop:=∃ks vs,d=.dct (.non::ks) vs/\D.immL vs=true/\ks.length=vs.length/\ks.length<=W.length/\∀c,AC (ck c) ks vs=(B4 W c).map D.int
def Ds.nil:Ds (.dct [.non] []) []:={[],[],rfl,rfl,rfl,Ap _,λc=>by simp[AC,uT]}
def Ds.put{v:Int}(h:Ds (.dct (.non::b) d) W):Ds (.dct (.non::(AV (ck c0) (.int v) b d).1) (AV (ck c0) (.int v) b d).2) (W++[(c0,v)]):=by
 obtain⟨c,g,e,f,a,j,i⟩:=h;cases e;refine{_,_,rfl,e7 ag f,(fq a).1,by have:=(fq (k:=ck c0) (v:=.int v) a).2;simp;omega,λc=>?_};rw[uV a,mw,i c];by_cases e:c0=c
 ·subst e;simp
 ·have e':ck c0≠ck c:=λz=>e (mc z)
  simp[e,e']
def Ds.flat(h:Ds d W):d.flat=true:=by
 obtain⟨b,c,rfl,a,_⟩:=h;exact a
instance wr(ts:List Tr):List (Aj×Int):=ts.zipIdx.flatMap λp=>p.1.cells.map λc=>(c,(p.2:Int))
def iz:wr (a++[u])=wr a++u.cells.map λc=>(c,(a.length:Int)):=by
 delta wr;rw[List.zipIdx_append,Fh];simp
def Co(sh:List Aj)(ts:List Tr):List (Aj×Int):=(sh.map λc=>(c,-1))++wr ts
def mz(h:∀t∈a,c∉t.cells):B4 (wr a) c=none:=by
 apply uU;rintro ⟨q,v⟩ b;delta wr at b;obtain⟨⟨t,i⟩,g,f⟩:=DK.mp b;obtain⟨m,j,l⟩:=BF.mp f;have d:t∈a:=(List.mem_zipIdx g).2.2▸List.getElem_mem _;intro e;cases l;exact h t d (by rw[<-show q=c from e];exact j)
def uW{m:Nat}(hm:ts[m]?=some t)(hc:c∈t.cells)(ap:ts.Pairwise λa b=>∀c∈a.cells,c∉b.cells):B4 (wr ts) c=some (m:Int):=by
 induction ts using iw with
 | nil=>simp at hm
 | append_singleton ts u ih=>
   rw[iz,fJ,iy];obtain⟨a1,_,a3⟩:=EB.mp ap;by_cases h:m<ts.length
   ·rw[EW h] at hm
    have hcu:c∉u.cells:=a3 t (Bq hm) u 'd' c hc;rw[if_neg hcu];simp only[Option.none_or];exact ih hm a1
   ·have hml:m=ts.length:=by
     have:=(AQ.mp hm).1;rw[A7] at this;simp at this;omega
    subst hml;rw[G7 (Ap _)] at hm;simp at hm;subst hm;rw[if_pos hc];rfl
def iA{f b:Int}(e:AH f b d a){m:Nat}(g:a[m]?=some t)(h:c∈t.cells):B4 (Co d a) c=some (m:Int):=by
 delta Co;rw[fJ,uW g h e.apart];rfl
def uX{g i:Int}(f:AH g i a e)(b:c∈a):B4 (Co a e) c=some (-1):=by
 delta Co;rw[fJ,mz λt d h=>(f.tr t d).free c h b,iy,if_pos b];rfl
def uY(d:c∉a)(b:∀t∈e,c∉t.cells):B4 (Co a e) c=none:=by
 delta Co;rw[fJ,mz b,iy,if_neg d];rfl
def GY:List D->Ar Unit D:=BC 7 2 (Lc GX).1
def mB{b c:Int}:AR (An b c a d) (.int 2)=some (.tup (a.map Af)):=by
 show im (some (D.tup (a.map Af)))=_;simp[im,ao,aq az a]
def hall3'{b c:Int}:AR (An b c d a) (.int 3)=some (.tup (a.map Tr.kind)):=by
 show im (some (D.tup (a.map Tr.kind)))=_;simp[im,ao,aq bS a]
def uZ(h:∀t∈ts,t.cells.length<=81):(wr ts).length<=81*ts.length:=by
 induction ts using iw with
 | nil=>simp[wr]
 | append_singleton ts u ih=>
   rw[iz,A7,Ai,A7];have h1:=ih λt ht=>h t (by simp[ht])
   have h2:=h u 'd';simp only[CD,F5];omega
def mC{x u:Int}(y:Cfg x u f ts)(M:∀d,Ds d (Co f ts)->Q d ()):Aa (GY [An x u f ts,Ak ts]) Q E:=by
 refine aF rfl 'z' ?_;delta Lc;dsimp only;have s:∀t∈ts,t.cells.length<=81:=λt A=>bv (y.wh t A).2.1 (y.wh t A).2.2.2
 have a:=y.few;have b:=y.sh;simp_all!;simp!;simp_all!;simp! [mB];refine aN (λi Z b=>∃(d:D) (m r o l:Sl),Z=[Sl.bor (An x u f ts),.bor (Ak ts),.own d,m,r,o,l]/\Ds d ((f.take i).map λc=>(c,-1))) 0 {_,_,_,_,_,rfl,Ds.nil} (λi e Z b g h P C=>?_) λZ b h=>?_
 ·obtain⟨d,m,r,o,l,n,a⟩:=h
  rw[AK] at g;cases q:f[i]? with
  | none=>rw[q] at g;cases g
  | some c=>
    rw[q] at g;cases g;subst n;rw[As] at a;obtain⟨z,G,rfl,E,N,B,J⟩:=id a;rw[Ai,CO] at B;refine{_,rfl,?_};simp! [D7,E,eK];refine{z,G,rfl,cH 'o',C _ _ {_,_,_,_,_,rfl,?_}};rw[As];have:=a.put (c0:=c) (v:=-1);rwa [show (f.take i).map (λc=>(c,(-1:Int)))++[(c,-1)]=(f.take (i+1)).map λc=>(c,(-1:Int)) by rw[Cc,q,BD];rfl] at this
 ·obtain⟨d,m,r,o,l,n,a⟩:=h
  subst n;rw[As,Ai,CC] at a;simp!;simp_all!;have j:Ht [.tup (ts.map Tr.kind)]=some (GJ (ts.map Tr.kind)):=if_pos (aq bS ts);simp! [hall3',j];refine aN (λi Z b=>∃(d:D) (m r o l:Sl),Z=[Sl.bor (An x u f ts),.bor (Ak ts),.own d,m,r,o,l]/\Ds d (Co f (ts.take i))) 0 {_,_,_,_,_,rfl,by delta Co wr;simpa using a} (λi e Z b g h P C=>?_) λZ b h=>?_
  ·obtain⟨d,m,r,o,l,n,a⟩:=h
   obtain⟨I,j,rfl⟩:=jP g;rw[AK] at j;cases q:ts[i]? with
   | none=>rw[q] at j;cases j
   | some t=>
     rw[q] at j;cases j;subst n;rw[As] at a;obtain⟨j,P,O,I⟩:=y.wh t (Bq q);have I:i<ts.length:=(AQ.mp q).1;refine{_,rfl,?_};simp! [Ak,eL q];refine ms (p:=(t.x,t.y)) 'o' 'o' j O ?_;have y:AL t.w t.h (t.x,t.y)=t.cells:=rfl;rw[y];simp!;refine aN (λj Z b=>∃(d:D) (m l:Sl),Z=[Sl.bor (An x u f ts),.bor (Ak ts),.own d,m,.bor (.int i),.bor t.kind,l]/\Ds d (Co f (ts.take i)++(t.cells.take j).map λc=>(c,(i:Int)))) 0 {_,_,_,rfl,by simpa using a} (λj e Z b g h P2 y=>?_) λZ b h=>?_
     ·obtain⟨d,m,l,n,a⟩:=h
      rw[AK] at g;cases b:t.cells[j]? with
      | none=>rw[b] at g;cases g
      | some c=>
        rw[b] at g;cases g;subst n;rw[As] at a;obtain⟨z,G,rfl,E,N,B,J⟩:=id a;have e:=uZ (ts:=ts.take i) λt A=>s t (Gy A)
        have g:=s t (Bq q);have g:z.length<=3000:=by
         delta Co at B;rw[A7,A7,Ai,Ai,CO] at B;rw[CO] at e;omega
        refine{_,rfl,?_};simp! [D7,E,eK];refine{z,G,rfl,cH 'o',y _ _ {_,_,_,rfl,?_}};rw[As];have:=a.put (c0:=c) (v:=i);rwa [show Co f (ts.take i)++(t.cells.take j).map (λc=>(c,(i:Int)))++[(c,(i:Int))]=Co f (ts.take i)++(t.cells.take (j+1)).map λc=>(c,(i:Int)) by rw[Cc,b,BD,BH];rfl] at this
     ·obtain⟨d,m,l,n,a⟩:=h
      subst n;rw[As,Ai,CC] at a;refine C _ _ {d,_,_,_,_,rfl,?_};rw[As];have b:Co f (ts.take (i+1))=Co f (ts.take i)++t.cells.map λc=>(c,(i:Int)):=by
       delta Co;rw[Cc,q];show _++wr (ts.take i++[t])=_;rw[iz,CO,Fk 'o',BH]
      rw[b];exact a
  ·obtain⟨d,m,r,o,l,n,a⟩:=h
   subst n;rw[As,jQ,Ai,CC] at a;simp! [a.flat];exact M d a
def Jb:List D->Ar Unit D:=BC 2 2 Lg.1
def u0{a:Str}{d:Int}(e:Dq a)(c:Dir d)(b:Q (.bl (Bl a d)) ()):Aa (Jb [.str a,.int d]) Q E:=by
 refine aF rfl 'z' ?_;delta Lg;dsimp only;have a:∀{d:Int},iOp (λ_ j=>0<j) (λi j=>D.int (i % j)) (.int d) (.int 2)=some (.int (d % 2)):=λ{d}=>gP (C:=λ_ j=>0<j) 'z'
 rw  [ar];simp! [eu,cx,a];rcases e with r | r | r | r<;>subst r
 ·rw  [ar]
  simp! [eu];exact b
 ·rcases c.cases with r | r | r | r<;>subst r<;>exact b
 ·rw  [ar]
  simp! [eu,cx,a];rcases c.cases with r | r | r | r<;>subst r<;>exact b
 ·rw  [ar]
  simp! [eu];rcases c.cases with r | r | r | r<;>subst r<;>exact b
def GZ:List D->Ar Unit D:=BC 4 2 Lk.1
def mD{d:Int}(a:Dir d)(b:Q (Af (p.1+dx d,p.2+dy d)) ()):Aa (GZ [Af p,.int d]) Q E:=by
 refine aF rfl 'z' ?_;delta Lk;dsimp only;rw  [ar];simp!;rcases a.cases with r | r | r | r<;>subst r<;>refine{_,_,rfl,'z',rfl,?_}<;>simp?! [Af,AR,pt0,pt1,BL,AU,aO]<;>exact b
def eM{A4 A3:Int}(ho:AH A4 A3 sh ts):Cfg A4 A3 sh ts where
 few:=ho.few
 sh:=Az ho.sub.length_le (bv ho.w9 ho.h9)
 wh:=λt ht=>by
  have to:=ho.tr t ht;have:=to.w1;have:=to.h1;have:=to.xw;have:=to.yh;have:=to.x0;have:=to.y0;have:=ho.w9;have:=ho.h9;exact{'o','o','o','o'}
def Jc:List D->Ar Unit D:=BC 3 3 K3.1
def u3{w h:Int}(a:Q (.bl (CV w h c)) ()):Aa (Jc [.int w,.int h,Af c]) Q E:=by
 refine aF rfl 'z' ?_;delta K3;dsimp only;simp! [Af,AR,pt0,pt1,AU];delta CV at a;by_cases d:0<=c.1<;>by_cases b:c.1<w<;>by_cases e:0<=c.2<;>by_cases f:c.2<h<;>simp[d,b,e,f,aE] at a ⊢<;>exact a
def mE{w h:Int}:CV w h c=true↔0<=c.1/\c.1<w/\0<=c.2/\c.2<h:=by
 simp[CV];omega
def mF{n:Int}(d:∀c,AC (ck c) a b=(B4 W c).map D.int):Gh (.dct (.non::a) b) (Af c) (.int n)=some (.int ((B4 W c).getD n)):=by
 show im (some ((AC (ck c) a b).getD (.int n)))=_;rw[d c];cases B4 W c<;>rfl
def u4{i o:Int}(f:AH i o g b){n:Nat}(p:c∉g):∃v:Nat,(B4 (Co g b) c).getD (n:Int)=(v:Int)/\(v=n\/∃u,b[v]?=some u/\c∈u.cells)/\∀m u,b[m]?=some u->c∈u.cells->m=v:=by
 by_cases h:∃(m:Nat) (u:Tr),b[m]?=some u/\c∈u.cells
 ·obtain⟨m,u,a,d⟩:=h
  refine{m,by rw[iA f a d];rfl,.inr ⟨u,a,d⟩,λm' u' j l=>?_};have e:=(iA f a d).symm.trans (iA f j l);have:=Option.some.inj e;omega
 ·have f:∀t∈b,c∉t.cells:=λt j e=>by
   obtain⟨m,c⟩:=DF j;exact h ⟨m,t,c,e⟩
  exact{n,by rw[uY p f];rfl,.inl rfl,λm u a d=>absurd ⟨m,u,a,d⟩ h}
def Jd:List D->Ar Unit D:=BC 9 5 (Lo Jb GX GZ Jc).1
def u5{l o:Int}{n:Nat}{d:Int}(h:AH l o r f)(a:f[n]?=some t)(e:Dir d)(i:Ds dd (Co r f))(U:¬EK l o r t d->Q .non ())(hL:∀g:List Nat,EK l o r t d->g.Nodup->(∀m,m∈g↔m≠n/\∃u,f[m]?=some u/\Cr t u d)->Q (.lst (AA g)) ()):Aa (Jd [An l o r f,Ak f,dd,.int n,.int d]) Q E:=by
 refine aF rfl 'z' ?_;delta Lo;dsimp only;obtain⟨x,v,rfl,s,y,q,j⟩:=i;have b:=eM h;obtain⟨A,q,i,z⟩:=b.wh t (Bq a);have s:∀t:Tr,AR t.kind (.int 2)=some (.str t.ways):=λt=>rfl
 have y:AR (An l o r f) (.int 0)=some (.int l):=rfl;have W:AR (An l o r f) (.int 1)=some (.int o):=rfl;have B:=b.few;simp_all!;simp! [hall3',cy a];simp_all!;simp! [s];refine u0 (h.tr t (Bq a)).ways e ?_;by_cases s:Bl t.ways d=true
 ·rw[s]
  simp!;simp_all!;simp! [aQ];rw  [ar];simp! [Ak,eL a];refine mD (p:=(t.x,t.y)) e ?_;refine ms (p:=((t.x,t.y).1+dx d,(t.x,t.y).2+dy d)) 'o' 'o' A i ?_;have O:AL t.w t.h ((t.x,t.y).1+dx d,(t.x,t.y).2+dy d)=t.ahead d:=rfl;rw[O];have a:(t.ahead d).length<=81:=bv q z;simp!;refine l8 (λi Z a=>∃(g:List Nat) (Q x8:Sl),Z=[Sl.bor (An l o r f),.bor (Ak f),.bor (.dct (.non::x) v),.bor (.int n),.bor (.int d),.bor t.kind,.own (.lst (AA g)),Q,x8]/\g.Nodup/\(∀m∈g,m≠n/\∃u,f[m]?=some u/\Cr t u d)/\∀c∈(t.ahead d).take i,(c∉r/\0<=c.1/\c.1<l/\0<=c.2/\c.2<o)/\∀m u,f[m]?=some u->c∈u.cells->m≠n->m∈g) 0 {[],_,_,rfl,List.nodup_nil,λm M=>absurd M 'd',λc b=>absurd b 'd'} (λi e Z a b R P N pr=>?_) λZ a R=>?_
  ·obtain⟨g,Q,x8,Z,C,E,z⟩:=R
   rw[AK] at b;cases q:(t.ahead d)[i]? with
   | none=>rw[q] at b;cases b
   | some c=>
     rw[q] at b;cases b;subst Z;rw[As] at z;have A:=Bq q;have a:g.length<=f.length:=cz _ g C λm M=>by
      obtain⟨_,u,a,_⟩:=E m M;exact(AQ.mp a).1
     refine{_,rfl,?_};simp_all!;simp! [mF j];refine{x,v,rfl,?_};simp! [mF j];simp_all!;simp! [cx];by_cases b:c∈r
     ·rw[uX h b]
      simp! [Option.getD_some,cg];exact pr _ _ (U λI=>(I.2 c A).1 b)
     ·obtain⟨v,j,T,P⟩:=u4 h (c:=c) (n:=n) b
      rw[j];have a:(((v:Nat):Int) == -1)=false:=by rw[beq_eq_false_iff_ne];omega
      rw[a];simp! [y,W];refine u3 ?_;by_cases x:CV l o c=true
      ·rw[x]
       have B:=mE.mp x;simp!;have on:∀g:List Nat,AA g=g.map λj:Nat=>D.int j:=λ_=>rfl
       have a:∀h:List Nat,(∀m∈g,m∈h)->(v≠n->v∈h)->∀c∈(t.ahead d).take (i+1),(c∉r/\0<=c.1/\c.1<l/\0<=c.2/\c.2<o)/\∀m u,f[m]?=some u->c∈u.cells->m≠n->m∈h:=λh hs hv Y y=>by
        rw[Cc,q] at y;rcases BN.mp y with h | h
        ·exact{(z Y h).1,λm u J G i=>hs m ((z Y h).2 m u J G i)}
        ·have h:Y=c:=by simpa using h
         subst h;refine{⟨b,B⟩,λm u J G i=>?_};have:=P m u J G;subst this;exact hv i
       simp only[cx,on,ir];by_cases i:v=n
       ·have:(((v:Nat):Int) == ((n:Nat):Int))=true:=by rw[i];exact cg _
        rw[this];simp!;exact N _ _ {g,_,_,rfl,C,E,by rw[As];exact a g (λm h=>h) λh=>absurd i h}
       ·have:(((v:Nat):Int) == ((n:Nat):Int))=false:=by rw[beq_eq_false_iff_ne];omega
        rw[this];simp!;by_cases q:v∈g
        ·rw[aA q]
         simp!;exact N _ _ {g,_,_,rfl,C,E,by rw[As];exact a g (λm h=>h) λ_=>q}
        ·rw[ax q]
         have B:D.immL (g.map λj:Nat=>D.int j)=true:=bT g;simp! [Bc,B];refine{_,bB ag (by rw[Ai];omega),N _ _ {g++[v],.bor (Af c),.bor (.int v),?_,?_,?_,by rw[As];exact a _ (λm h=>Ff _ h) λ_=>by simp}}
         ·unfold AA
          rw[BD];rfl
         ·rw[FH]
          refine{C,'d',λa O b j e=>?_};rw[Bd.mp j] at e;subst e;exact q O
         ·intro m M
          rcases BN.mp M with h | h
          ·exact E m h
          ·rw[Bd.mp h]
           refine{i,?_};rcases T with h | ⟨u,J,G⟩
           ·exact absurd h i
           ·exact⟨u,J,c,G,A⟩
      ·have a:CV l o c=false:=by simpa using x
       rw[a];simp!;exact pr _ _ (U λI=>x (mE.mpr (I.2 c A).2))
  ·obtain⟨g,Q,x8,Z,C,E,z⟩:=R
   subst Z;rw[As,Ai,CC] at z;have B:D.immL (AA g)=true:=bT g;simp! [B];refine hL g {s,λc y=>(z c y).1} C λm=>{E m,λ⟨W,u,e,c,b,a⟩=>(z c a).2 m u e b W}
 ·have a:Bl t.ways d=false:=by simpa using s
  rw[a];simp!;exact U λI=>s I.1
def G4:List D->Ar Unit D:=BC 9 5 (Ls Jd).1
instance muA(Z:Ae):Nat:=match (Z[7]?:Option Sl) with
 | some (Sl.bor (D.int a))=>20-a.toNat
 | _=>0
def u6{g h:List Nat}(a:h.length<=1000)(e:Q (AA (h.filter λk=>decide (k∉g))) ()) :
 Aa (Dm Unit (gN 0) (tP Unit (tb (o2 (EJ true) (vr 0) (vr 1)))) (fP Unit (vr 0)) (AA h) [] [x,.bor (.lst (AA g))] ()) Q E:=by
 refine cv (λn a Z c=>a=AA ((h.take n).filter λk=>decide (k∉g))/\∃x,Z=[x,.bor (.lst (AA g))]) 0 {rfl,_,rfl} (λi d a Z c b hI140=>?_) λa Z c hI139=>?_
 ·obtain⟨a,x,d⟩:=hI140
  unfold AA at b;rw[AK] at b;cases q:h[i]? with
  | none=>rw[q] at b;cases b
  | some k=>
    rw[q] at b;cases b;subst d;rw[As] at a;have b:∀g:List Nat,AA g=g.map λj:Nat=>D.int j:=λ_=>rfl
    refine{_,rfl,?_};simp! [b,ir];have c:(h.take (i+1)).filter (λk=>decide (k∉g))=(h.take i).filter (λk=>decide (k∉g))++[k].filter λk=>decide (k∉g):=by
     rw[Cc,q,F1];rfl
    by_cases b:k∈g
    ·rw[aA b]
     simp!;refine{?_,_,rfl};rw[c,a];simp[b,AA]
    ·rw[ax b]
     simp!;refine{cH ?_,?_,_,rfl}
     ·rw[a];unfold AA
      rw[Ai];have:=EX (λk=>decide (k∉g)) (h.take i);rw[CO] at this;omega
     ·rw[c,a]
      simp[b,AA]
 ·obtain⟨a,x,d⟩:=hI139
  unfold AA at a;rw[As,Ai,CC] at a;rw[a];exact e
def u7{a:Bool}{g:List Nat}:Bh a (.lst (AA g)) (.lst [])=some (.bl (if a then !decide (g=[]) else decide (g=[]))):=by
 have c:D.depL (AA g)<=0:=cw (n:=0) (λa=>by simp[D.dep]) g;cases g with
 | nil=>cases a<;>rfl
 | cons a g=>
   have b:D.depL (AA (a::g))<=29:=Az c 'z';delta Bh;rw[if_pos (by unfold D.dep;omega)];have e:D.eqq (.lst (AA (a::g))) (.lst [])=some false:=rfl;rw[e];cases ‹Bool›<;>simp
def mG{x A:Int}{n:Nat}{d:Int}(h:AH x A v f)(R:f[n]?=some t0)(p:Dir d)(i:Ds dd (Co v f))(W:GW x A v f d n t0->Q .non ())(hL:∀g:List Nat,Bm x A v f d n g->Q (.tup (AA g)) ()):Aa (G4 [An x A v f,Ak f,dd,.int n,.int d]) Q E:=by
 refine aF rfl 'z' ?_;delta Ls;dsimp only;have a:=eM h;have b:=a.few;have c:∀t:Tr,AR t.kind (.int 3)=some (.int t.s):=λt=>rfl
 have b:=i.flat;have a:=(h.tr t0 (Bq R)).st;simp_all!;simp! [hall3',cy R,c];simp_all!;simp! [cx];by_cases b:t0.s=-1
 ·have a:(t0.s == -1)=true:=by rw[b];rfl
  rw[a];simp!;exact W (.inl 'o')
 ·have a:(t0.s == -1)=false:=by rw[beq_eq_false_iff_ne];exact b
  rw[a];simp!;simp_all!;simp! [bi];simp_all!;simp!;rw  [ar];refine dh (λZ o=>∃(g:List Nat) (c:Nat) (a:Sl),Z=[Sl.bor (An x A v f),.bor (Ak f),.bor dd,.bor (.int n),.bor (.int d),.bor (.int t0.s),.own (.lst (AA g)),.bor (.int c),a]/\g.Nodup/\(∀m∈g,m<f.length/\Eb f d n m)/\n∈g/\c<=g.length/\(t0.s=0->∀m∈g,m=n)/\(∀j m t,j<c->g[j]?=some m->f[m]?=some t->EK x A v t d/\∀k u,f[k]?=some u->Cr t u d->k∈g)) (λZ _=>muA Z) {[n],0,_,rfl,'d',λm l=>?_,'d','d',λ_ m l=>Bd.mp l,λj m t y=>absurd y (Fj _)} ?_
  ·rw[Bd.mp l]
   exact{(AQ.mp R).1,.self}
  ·intro Z o e P b pn pr pz
   obtain⟨g,c,a,rfl,T,M,O,b,Z,Q⟩:=e;have a:g.length<=f.length:=cz _ g T λm l=>(M m l).1
   have a:(AA g).length=g.length:=by unfold AA;rw[Ai]
   have b:∀g:List Nat,D.immL (AA g)=true:=bT;simp! [Cw,AU,a];by_cases N:c < g.length
   ·rw[aA (show ((c:Nat):Int)<(g.length:Int) by omega),if_pos rfl]
    obtain⟨m,l⟩:∃m,g[c]?=some m:={_,AO N};have J:=Bq l;obtain⟨a,I⟩:=M m J;obtain⟨t,s⟩:∃t,f[m]?=some t:={_,AO a};simp_all!;simp! [mj l];refine u5 h s p i (λe=>?_) λh U a p=>?_
    ·simp!
     simp_all!;simp! [CT,D.isNon];exact pr _ _ (W (.inr (.inl ⟨m,t,I,s,e⟩)))
    ·have G:∀k∈h,k<f.length/\Eb f d n k:=λk q=>by
      obtain⟨_,u,z,o⟩:=(p k).mp q;exact{(AQ.mp z).1,.more I s z o}
     have e:h.length<=f.length:=cz _ h a λk q=>(G k q).1
     simp! [b];simp_all!;simp! [CT,D.isNon,aQ,u7,cx];have Y:(t0.s=0->h=[])->Aa (E7 Unit (sMt Unit 6 Hs (Gc Unit [8] [none,some 6] (Er Unit D.seq? (fVk Unit 8)) (gN 0) (tP Unit (tb (o2 (EJ true) (vr 0) (vr 1)))) (fP Unit (vr 0)))) (GO Unit 7 (fP Unit (cn (D.int 1))) λi j=>i+j) [Sl.bor (An x A v f),.bor (Ak f),.bor dd,.bor (.int n),.bor (.int d),.bor (.int t0.s),.own (.lst (AA g)),.bor (.int c),.own (.lst (AA h))] ()) P E:=λr=>by
      rw  [ar];simp! [b,Bc];refine u6 'o' ?_;have C:∀k∈h.filter (λk=>decide (k∉g)),k∈h/\k∉g:=λk q=>by simpa using q
      have i:∀k∈h,k∈g++h.filter λk=>decide (k∉g):=λk q=>by
       by_cases e:k∈g
       ·exact Ff _ e
       ·exact EA _ (by simp[q,e])
      have b:(h.filter λk=>decide (k∉g)).length<=h.length:=EX _ _;have B:(h.filter λk=>decide (k∉g)).Nodup:=a.filter _;have E:t0.s=0->h.filter (λk=>decide (k∉g))=[]:=λe=>by rw[r e];rfl
      generalize h.filter (λk=>decide (k∉g))=r at C i b B E;have a:(AA r).length=r.length:=by unfold AA;rw[Ai]
      refine{_,eI (bT r) 'o',?_};refine{_,_,rfl,rfl,pn _ _ {g++r,c + 1,.own (.lst (AA h)),?_,?_,?_,Ff _ O,?_,?_,?_} ?_}
      ·unfold AA;rw[BD];rfl
      ·rw[FH]
       exact{T,B,λa r b P e=>by subst e;exact(C _ P).2 r}
      ·intro m' a
       rcases BN.mp a with e | e
       ·exact M m' e
       ·exact G m' (C m' e).1
      ·rw[A7];omega
      ·intro e m' a
       rw[E e,Cp] at a;exact Z e m' a
      ·intro j m' B y a b
       by_cases r:j=c
       ·subst r
        rw[EW N,l] at a;cases a;rw[s] at b;cases b;refine{U,λk u z o=>?_};by_cases e:k=m
        ·subst e;exact Ff _ J
        ·exact i k ((p k).mpr ⟨e,u,z,o⟩)
       ·rw[EW 'o'] at a
        obtain⟨C,r⟩:=Q j m' B 'o' a b;exact{C,λk u z o=>Ff _ (r k u z o)}
      ·show 20-((c:Int)+1).toNat<20-c
       omega
     by_cases a:h=[]
     ·rw[aA a]
      simp!;exact Y λ_=>a
     ·rw[ax a]
      simp!;by_cases r:t0.s=1
      ·have b:(t0.s == 1)=true:=by rw[r];rfl
       rw[b];simp!;exact Y λe=>absurd e 'o'
      ·have b:(t0.s == 1)=false:=by rw[beq_eq_false_iff_ne];exact r
       rw[b];simp!;refine pr _ _ (W (.inr (.inr {'o',?_})));obtain⟨k,q⟩:=List.exists_mem_of_ne_nil h a;by_cases e:k=n
       ·refine{m,λe'=>((p k).mp q).1 (e.trans e'.symm),I}
       ·exact{k,e,(G k q).2}
   ·rw[ax (show ¬((c:Nat):Int)<(g.length:Int) by omega)]
    simp!;refine pz _ ?_;have i:∀m,m∈g↔Eb f d n m:=λm=>{λh=>(M m h).2,λh=>by
     induction h with
     | self=>exact O
     | more r h c e a=>
       obtain⟨j,y⟩:=DF a;have b:j<g.length:=(AQ.mp y).1;exact(Q j _ _ 'o' y h).2 _ _ c e}
    have a:∀m∈g,∀t,f[m]?=some t->EK x A v t d:=λm l t s=>by
     obtain⟨j,y⟩:=DF l;have b:j<g.length:=(AQ.mp y).1;exact(Q j m t 'o' y s).1
    obtain⟨b,z,o,d⟩:=mm g;have c:GP [.lst (AA g)]=some (.lst (AA b)):=by
     show (Et (AA g)).bind (λns=>if ns.length<64 then some (D.lst ((sortI ns).map D.int)) else none)=_;rw[ml];show (if (g.map λj:Nat=>(j:Int)).length<64 then some (D.lst ((sortI (g.map λj:Nat=>(j:Int))).map D.int)) else none)=_;rw[if_pos (by rw[Ai];omega),z]
    simp! [c,Fv,bT];exact hL b {o.symm.nodup T,d,λm=>by rw[o.mem_iff];exact i m,λm l=>(M m (o.mem_iff.mp l)).1,λm l=>a m (o.mem_iff.mp l),λt s=>by
     rw[R] at s;cases s;exact{'o',λz m l=>Z z m (o.mem_iff.mp l)}}
def Je:List D->Ar Unit D:=BC 4 4 (Lx G4 GY).1
def u8{b c:Int}{n:Nat}{d:Int}(f:AH b c e a)(j:a[n]?=some t0)(i:Dir d)(m:GW b c e a d n t0->Q .non ())(l:∀g:List Nat,Bm b c e a d n g->Q (.tup (AA g)) ()):Aa (Je [An b c e a,Ak a,.int n,.int d]) Q E:=by
 refine aF rfl 'z' ?_;delta Lx;dsimp only;have h:=eM f;simp!;refine mC h λn d=>?_
 refine mG f j i d (λh=>?_) λg h=>?_
 ·exact{.inl bo,m h}
 ·exact{.inl (bT g),l g h}
def mH{t:Tr}{d:Int}:(t.to d).cells=t.ahead d:=rfl
def mI{t:Tr}{d:Int}{c:Aj}:c∈t.ahead d↔(c.1-dx d,c.2-dy d)∈t.cells:=by
 delta Tr.ahead Tr.cells;rw[ce,ce];simp only;omega
def AH.moved{A4 A3:Int}{sh:List Aj}{ts:List Tr}{g:List Nat}{d:Int}{n:Nat}(ho:AH A4 A3 sh ts)(hg:Bm A4 A3 sh ts d n g):AH A4 A3 sh (AW ts g d) where
 w1:=ho.w1
 w9:=ho.w9
 h1:=ho.h1
 h9:=ho.h9
 sub:=ho.sub
 few:=by rw[bU];exact ho.few
 tr:=λt ht=>by
  obtain⟨i,hi⟩:=DF ht;rw[bj] at hi;cases q:ts[i]? with
  | none=>rw[q] at hi;cases hi
  | some u=>
    rw[q] at hi;have hi:(if i∈g then u.to d else u)=t:=Option.some.inj hi;have hu:=ho.tr u (Bq q);by_cases hgi:i∈g
    ·rw[if_pos hgi] at hi
     subst hi;have ok:=(hg.ok i hgi u q).2;have w1:=hu.w1;have h1:=hu.h1;have m1:(u.x+dx d,u.y+dy d)∈u.ahead d:=by delta Tr.ahead;rw[ce];simp only;omega
     have m2:(u.x+dx d+u.w-1,u.y+dy d+u.h-1)∈u.ahead d:=by delta Tr.ahead;rw[ce];simp only;omega
     obtain⟨_,a1,_,a3,_⟩:=ok _ m1;obtain⟨_,_,b2,_,b4⟩:=ok _ m2;simp only at a1 a3 b2 b4;exact{w1,h1,a1,by show u.x+dx d+u.w<=A4;omega,a3,by show u.y+dy d+u.h<=A3;omega,hu.ways,hu.st,λc hc=>(ok c hc).1}
    ·rw[if_neg hgi] at hi
     subst hi;exact hu
 apart:=by
  have ap:=FY.mp ho.apart;have two:∀i j (a b:Tr),ts[i]?=some a->ts[j]?=some b->i≠j->∀c∈a.cells,c∉b.cells:=λi j a b ha hb hij c h1 h2=>by
   obtain⟨hi,rfl⟩:=AQ.mp ha;obtain⟨hj,rfl⟩:=AQ.mp hb;rcases Nat.lt_or_gt_of_ne hij with h | h
   ·exact ap i j hi hj h c h1 h2
   ·exact ap j i hj hi h c h2 h1
  refine FY.mpr λi j hi hj hij c h1 h2=>?_
  have li:i<ts.length:=by rw[bU] at hi;exact hi
  have lj:j<ts.length:=by rw[bU] at hj;exact hj
  have ei:(AW ts g d)[i]?=some ((AW ts g d)[i]):=AO hi;have ej:(AW ts g d)[j]?=some ((AW ts g d)[j]):=AO hj;have qi:ts[i]?=some ts[i]:=AO li;have qj:ts[j]?=some ts[j]:=AO lj;rw[bj,qi] at ei;rw[bj,qj] at ej;have ei:(if i∈g then ts[i].to d else ts[i])=(AW ts g d)[i]:=Option.some.inj ei;have ej:(if j∈g then ts[j].to d else ts[j])=(AW ts g d)[j]:=Option.some.inj ej;rw[<-ei] at h1;rw[<-ej] at h2;have hne:i≠j:=Br hij;by_cases gi:i∈g<;>by_cases gj:j∈g<;>simp only[gi,gj,if_true,if_false,mH] at h1 h2
  ·exact two i j _ _ qi qj hne _ (mI.mp h1) (mI.mp h2)
  ·exact gj ((hg.all j).mpr (.more ((hg.all i).mp gi) qi qj ⟨c,h2,h1⟩))
  ·exact gi ((hg.all i).mpr (.more ((hg.all j).mp gj) qj qi ⟨c,h1,h2⟩))
  ·exact two i j _ _ qi qj hne c h1 h2
theorem mJ:∀(a b:List Nat),a.Pairwise (· < ·)->b.Pairwise (· < ·)->(∀m,m∈a↔m∈b)->a=b
 | [],[],_,_,_=>rfl
 | [],y::b,_,_,h=>absurd ((h y).mpr 'd') 'd'
 | x::a,[],_,_,h=>absurd ((h x).mp 'd') 'd'
 | x::a,y::b,d,c,h=>by
   rw[DH] at d c;have g:x=y:=by
    have f:=(h x).mp 'd';have i:=(h y).mpr 'd';rcases AE.mp f with e | e
    ·exact e
    ·rcases AE.mp i with e' | e'
     ·exact e'.symm
     ·have:=c.1 x e
      have:=d.1 y e';omega
   subst g;rw[mJ a b d.2 c.2 λm=>{λa=>?_,λa=>?_}]
   ·have f:=d.1 m a
    rcases AE.mp ((h m).mp (by simp[a])) with e | e
    ·omega
    ·exact e
   ·have f:=c.1 m a
    rcases AE.mp ((h m).mpr (by simp[a])) with e | e
    ·omega
    ·exact e
def Bm.lt'{e c:Int}{d:Int}{n:Nat}{g:List Nat}(h:Bm e c i f d n g):g.Pairwise (· < ·):=by
 have:=List.Pairwise.and h.up h.nd;exact this.imp λ⟨a,b⟩=>FE a b
def Bm.one{b e:Int}{d:Int}{n:Nat}{g a:List Nat}(h:Bm b e i f d n g)(c:Bm b e i f d n a):g=a:=
 mJ g a h.lt' c.lt' λm=>(h.all m).trans (c.all m).symm
def Bm.not{f j:Int}{d:Int}{n:Nat}{g:List Nat}(h:Bm f j l e d n g)(i:e[n]?=some t):¬GW f j l e d n t:=by
 rintro (a | ⟨m,d,a,b,c⟩ | ⟨a,m,b,c⟩)
 ·exact(h.str t i).1 a
 ·exact c (h.ok m ((h.all m).mpr a) d b)
 ·exact b ((h.str t i).2 a m ((h.all m).mpr c))
def Bm.len{b c:Int}{d:Int}{n:Nat}{g:List Nat}(h:Bm b c e a d n g):g.length<=a.length:=cz _ g h.nd h.lt
def iB{neg:Bool}(h:D.depL l<=29):Bh neg (.lst l) (.lst [])=some (.bl (if neg then !decide (l=[]) else decide (l=[]))):=by
 cases l with
 | nil=>cases neg<;>rfl
 | cons a g=>
   have b:(D.lst (a::g)).dep<=30:=by unfold D.dep;omega
   delta Bh;rw[if_pos b];have e:D.eqq (.lst (a::g)) (.lst [])=some false:=rfl
   rw[e];cases neg<;>simp
theorem Bi.pos{i f:Int}{d:Int}{n:Nat}{k:Nat}(h:Bi i f m d n j k a)(b:j[n]?=some t)(c:1<=t.w)(e:1<=t.h) :
 a[n]?=some { t with x:=t.x+k*dx d,y:=t.y+k*dy d }/\(1<=k->0<=t.x+k*dx d/\t.x+k*dx d<i/\0<=t.y+k*dy d/\t.y+k*dy d<f):=by
 induction h with
 | zero=>refine{?_,λh=>absurd h 'z'};rw[b];simp
 | @succ k a g _ c b=>
   have a:n∈g:=(c.all n).mpr .self;obtain⟨b,_⟩:=b;have g:t.x+((k+1:Nat):Int)*dx d=t.x+k*dx d+dx d:=by rw[Int.natCast_add,Int.add_mul];simp;omega
   have e:t.y+((k+1:Nat):Int)*dy d=t.y+k*dy d+dy d:=by rw[Int.natCast_add,Int.add_mul];simp;omega
   constructor
   ·rw[bj,b,g,e]
    simp only[BA,if_pos a];rfl
   ·intro _
    have l:=c.ok n a _ b;have h:(t.x+k*dx d+dx d,t.y+k*dy d+dy d)∈Tr.ahead { t with x:=t.x+k*dx d,y:=t.y+k*dy d } d:=by
     delta Tr.ahead;rw[ce];refine{Int.le_refl _,?_,Int.le_refl _,?_}<;>simp only<;>omega
    have:=(l.2 _ h).2;rw[g,e];exact this
def Bi.le9{a b:Int}{d:Int}{n:Nat}{k:Nat}(h:Bi a b l d n e k ts')(i:e[n]?=some t)(g:1<=t.w)(j:1<=t.h)(c:0<=t.x/\t.x<9)(c:0<=t.y/\t.y<9)(c:a<=9)(f:b<=9)(c:Dir d):k<=9:=by
 by_cases f:1<=k
 ·obtain⟨_,p⟩:=h.pos i g j
  have p:=p f;rcases c.cases with r | r | r | r<;>subst r<;>simp[dx,dy] at p<;>omega
 ·omega
inductive Cz(A4 A3:Int)(sh:List Aj)(d:Int)(n:Nat):List Tr->List (List Tr)->Prop where
 | stop {ts:List Tr}:(∀g,¬Bm A4 A3 sh ts d n g)->Cz A4 A3 sh d n ts []
 | go {ts:List Tr} {g:List Nat} {l:List (List Tr)}:Bm A4 A3 sh ts d n g->Cz A4 A3 sh d n (AW ts g d) l->Cz A4 A3 sh d n ts (AW ts g d::l)
inductive C9(A4 A3:Int)(sh:List Aj)(d:Int)(n:Nat)(ts:List Tr):List (List Tr)->List Tr->Prop where
 | nil:C9 A4 A3 sh d n ts [] ts
 | snoc {p:List (List Tr)} {cur:List Tr} {g:List Nat}:C9 A4 A3 sh d n ts p cur->Bm A4 A3 sh cur d n g->C9 A4 A3 sh d n ts (p++[AW cur g d]) (AW cur g d)
section
variable{A4 A3:Int}{d:Int}{n:Nat}
theorem Cz.one(h:Cz A4 A3 g d n f l):∀{c:List (List Tr)},Cz A4 A3 g d n f c->l=c:=by
 induction h with
 | stop h=>intro c a;cases a with
   | stop _=>rfl
   | go b _=>exact absurd b (h _)
 | go b _ e=>intro c a;cases a with
   | stop h=>exact absurd b (h _)
   | go c a=>
     have:=b.one c;subst this;rw[e a]
theorem C9.alng(h:C9 A4 A3 c d n g p b):∀{l:List (List Tr)},Cz A4 A3 c d n b l->Cz A4 A3 c d n g (p++l):=by
 induction h with
 | nil=>intro l a;exact a
 | snoc _ e f=>intro l a;rw[BH];exact f (.go e a)
theorem C9.steps(h:C9 A4 A3 f d n e p a):Bi A4 A3 f d n e p.length a:=by
 induction h with
 | nil=>exact .zero
 | snoc _ b c=>rw[A7];exact .succ c b
theorem C9.ok(h:C9 A4 A3 b d n f p a)(g:AH A4 A3 b f):AH A4 A3 b a:=by
 induction h with
 | nil=>exact g
 | snoc _ c e=>exact e.moved c
def C9.le9(h:C9 A4 A3 l d n e p j)(b:AH A4 A3 l e)(c:e[n]?=some t)(g:Dir d):p.length<=9:=by
 have a:=b.tr t (Bq c);have i:=b.w9;have f:=b.h9;exact h.steps.le9 c a.w1 a.h1 {a.x0,by have:=a.xw;have:=a.w1;omega} {a.y0,by have:=a.yh;have:=a.h1;omega} i f g
end
open Classical in
def EV(A4 A3:Int)(sh:List Aj)(ts:List Tr)(d:Int)(n:Nat):List (List Tr):=if h:∃l,Cz A4 A3 sh d n ts l then h.choose else []
def Cz.is{a b:Int}{d:Int}{n:Nat}(h:Cz a b f d n c l):EV a b f c d n=l:=by
 delta EV;have e:∃l,Cz a b f d n c l:=⟨l,h⟩;rw[dif_pos e];exact e.choose_spec.one h
def C9.is{b c:Int}{d:Int}{n:Nat}(h:C9 b c e d n f p a)(i:∀g,¬Bm b c e a d n g):EV b c e f d n=p:=by
 have:=(h.alng (.stop i)).is;rw[Cp] at this;exact this
structure Row where
 n:Nat
 d:Int
 k:Nat
 ts:List Tr
instance Row.push(r:Row):D:=Fd r.n r.d r.k
instance Row.data(r:Row):D:=.tup [r.push,Ak r.ts]
def fK{n:Nat}{d k:Int}:(Fd n d k).imm=true:=id rfl
def dm:(Ak a).imm=true:=by delta Ak;rw[ao];exact aq bd _
def cf(r:Row):r.data.imm=true:=by delta Row.data Row.push;simp only[ao,D.immL,fK,dm,De]
def Da(n:Nat)(d:Int)(p:List (List Tr)):List Row:=(p.zipIdx 1).map λq=>⟨n,d,q.2,q.1⟩
def u9{n:Nat}{d:Int}:Da n d (p++[s])=Da n d p++[{n,d,p.length+1,s}]:=by
 delta Da;rw[List.zipIdx_append,BD];simp[Cq]
def fL{n:Nat}{d:Int}:(Da n d p).length=p.length:=by delta Da;simp
def CW(A4 A3:Int)(sh:List Aj)(ts:List Tr)(n i:Nat):List Row:=(List.range i).flatMap λd:Nat=>Da n (d:Int) (EV A4 A3 sh ts (d:Int) n)
def Bw(A4 A3:Int)(sh:List Aj)(ts:List Tr)(m:Nat):List Row:=(List.range m).flatMap λn=>CW A4 A3 sh ts n 4
def mK{a b:Int}{n i:Nat}:CW a b d c n (i+1)=CW a b d c n i++Da n i (EV a b d c i n):=by
 delta CW;rw[F2,Fh];simp
def mL{a b:Int}{m:Nat}:Bw a b c d (m+1)=Bw a b c d m++CW a b c d m 4:=by
 delta Bw;rw[F2,Fh];simp
def mM{c b:Int}{n:Nat}{d:Int}(m:Cfg c b h a)(i:n<a.length)(f:Dir d)(o:(∀g,¬Bm c b h a d n g)->∀j:Nat,Q (.int j) ())(l:∀g,Bm c b h a d n g->Q (Ak (AW a g d)) ()):Aa (Gp [An c b h a,Ak a,Fd n d 1]) Q E:=by
 refine uS m i f 'z' 'z' (λk e t j d i f=>?_) λe d=>?_
 ·have:k=0:=by omega
  subst this;cases d;exact o (λg e=>e.not i f) 0
 ·cases d with
  | succ f e=>cases f;exact l _ e
def HK:List D->Ar Unit D:=BC 7 2 (MD Gp).1
instance muP(Z:Ae):Nat:=match (Z[6]?:Option Sl),(Z[5]?:Option Sl) with
 | some (Sl.bor (D.tup _)),some (Sl.bor (D.int a))=>30-a.toNat
 | _,_=>0
def va{c b:Int}(v:AH c b f a)(T:(Bw c b f a a.length).length<=432->Q (.lst ((Bw c b f a a.length).map Row.data)) ()):Aa (HK [An c b f a,Ak a]) Q E:=by
 have g:[An c b f a,Ak a].length=2:=by simp
 have e:2<=7:=by decide
 have A:=@aF 7 2 (MD Gp).1 [An c b f a,Ak a] Q E g e;delta HK;with_reducible refine A ?_
 clear A;delta MD;dsimp only;have R:=eM v;have e:=v.few;simp_all!;simp! [aQ];simp_all!;have e:Cw [Ak a]=some (.int a.length):=by delta Ak Cw;simp
 simp! [e];rw[bQ 'o' 'o'];refine aN (λi Z g=>∃(N z s u:Sl),Z=[Sl.bor (An c b f a),.bor (Ak a),.own (.lst ((Bw c b f a i).map Row.data)),N,z,s,u]/\(Bw c b f a i).length<=36*i) 0 {_,_,_,_,rfl,by simp[Bw]} (λn e Z g h r P G=>?_) λZ g r=>?_
 ·obtain⟨N,z,s,u,l,q⟩:=r
  obtain⟨rfl,I⟩:=bD h;rw[Dc] at I;rw[As] at q l;rw[As] at G;subst l;have j:(0:Int)+(n:Int)=(n:Int):=by omega
  rw[j];obtain⟨t,C⟩:∃t,a[n]?=some t:={_,AO I};refine{_,rfl,?_};simp!;rw[show GH [.int 4]=some (Dk 0 4) from rfl];refine aN (λi Z g=>∃(z s u:Sl),Z=[Sl.bor (An c b f a),.bor (Ak a),.own (.lst ((Bw c b f a n++CW c b f a n i).map Row.data)),.bor (.int n),z,s,u]/\(Bw c b f a n++CW c b f a n i).length<=36*n+9*i) 0 {_,_,_,by rw[show CW c b f a n 0=[] from rfl,Cp],by rw[show CW c b f a n 0=[] from rfl,Cp];exact q} (λi e Z g h r P2 o=>?_) λZ g r=>?_
  ·obtain⟨z,s,u,l,q⟩:=r
   obtain⟨rfl,e⟩:=bD h;rw[As] at q l;rw[As] at o;obtain⟨B,e⟩:∃B,B=Bw c b f a n++CW c b f a n i:={_,rfl};rw[mK,<-BH] at o;rw[<-e] at q l o;subst l;have e:(0:Int)+(i:Int)=(i:Int):=by omega
   rw[e];have M:Dir (i:Int):={'o','o'};refine{_,rfl,?_};simp_all!;simp!;simp_all!;simp! [fj];have A:∀{x:D} {e:Ae},((∃g,x=Ak (AW a g i)/\Bm c b f a i n g)\/∃j:Nat,x=.int j/\∀g,¬Bm c b f a i n g)->e=[Sl.bor (An c b f a),.bor (Ak a),.own (.lst (B.map Row.data)),.bor (.int n),.bor (.int i),.bor (.int 1),.bor x]->
    Aa (FQ Unit (tP Unit (tb (ti Bt.tuple (vr 6)))) (E7 Unit (sMt Unit 2 Hr (fP Unit (o1 B3 (cs (o1 B3 (cs (vr 3) (cs (vr 4) (cs (vr 5) nl)))) (cs (vr 6) nl))))) (E7 Unit (FO Unit 5 (fP Unit (o2 BL (vr 5) (cn (.int 1))))) (FO Unit 6 (GF Unit Gp (aP Unit (cs (vr 0) (cs (vr 6) (cs (o1 B3 (cs (vr 3) (cs (vr 4) (cs (cn (.int 1)) nl)))) nl)))))))) e ()) P2 E:=λ{x e} m l=>by
    subst l;refine dh (λZ y=>∃(k:Nat) (p:List (List Tr)) (h:List Tr) (x:D),k=p.length+1/\Z=[Sl.bor (An c b f a),.bor (Ak a),.own (.lst ((B++Da n i p).map Row.data)),.bor (.int n),.bor (.int i),.bor (.int k),.bor x]/\C9 c b f i n a p h/\((∃g,x=Ak (AW h g i)/\Bm c b f h i n g)\/∃j:Nat,x=.int j/\∀g,¬Bm c b f h i n g)) (λZ _=>muP Z) {1,[],a,x,rfl,by rw[show Da n i []=[] from rfl,Cp];rfl,.nil,m} ?_;intro Z y r P e G E U;obtain⟨k,p,h,x,Q,rfl,E,m⟩:=r;have e:=E.le9 v C M;simp!;rcases m with⟨g,rfl,J⟩ | ⟨j,rfl,m⟩
    ·obtain⟨e,C⟩:∃e,e=AW h g i:={_,rfl}
     have x:=E.snoc J;rw[<-C] at x ⊢;have h:=x.steps;have v:BZ Bt.tuple (Ak e)=true:=rfl;rw[v,if_pos rfl,ar];simp! [fj,Bc,aq cf];have y:B3 [D.tup [.int n,.int i,.int k],Ak e]=some (Row.data ⟨n,i,k,e⟩):=aO fK dm;rw[y];refine{_,bB (cf _) (by rw[Ai,A7,fL];omega),?_};simp_all!;simp! [BL,AU];have O:n<e.length:=by rw[h.len];exact I
     simp! [fj];rw[<-bw h.kind];have done:∀y:D,((∃g,y=Ak (AW e g i)/\Bm c b f e i n g)\/∃j:Nat,y=.int j/\∀g,¬Bm c b f e i n g)->P (.nx [Sl.bor (An c b f a),.bor (Ak a),.own (.lst ((B++Da n i p).map Row.data++[Row.data ⟨n,i,k,e⟩])),.bor (.int n),.bor (.int i),.bor (.int (k+1)),.bor y]) ():=λy P=>by
      refine G _ _ ?_ ?_
      ·refine{k+1,p++[e],e,y,by rw[A7,Q];rfl,?_,x,P}
       rw[u9,<-BH,BD (l₁:=B++Da n i p),Q];rfl
      ·have x:muP [Sl.bor (An c b f a),.bor (Ak a),.own (.lst ((B++Da n i p).map Row.data)),.bor (.int n),.bor (.int i),.bor (.int k),.bor (Ak e)]=30-(k:Int).toNat:=rfl
       rw[<-C,x];rcases P with⟨g,rfl,_⟩ | ⟨j,rfl,_⟩
       ·show 30-((k:Int)+1).toNat<30-(k:Int).toNat
        omega
       ·show 0<30-(k:Int).toNat
        omega
     refine mM (n:=n) (d:=i) (h.cfg R) O M (λm j=>?_) λy p=>?_
     ·simp!
      rw[bw h.kind];exact done (.int j) (.inr {_,rfl,m})
     ·have x:(Ak (AW e y i)).flat=false:=rfl
      simp! [x];rw[bw h.kind];exact done _ (.inl ⟨y,rfl,p⟩)
    ·have v:BZ Bt.tuple (.int j)=false:=rfl
     rw[v];simp!;rw[E.is m] at o;exact U _ (o _ _ {_,_,_,rfl,by rw[A7,fL];omega})
   refine mM (n:=n) (d:=i) R I M (λm j=>?_) λg J=>?_
   ·simp!
    exact A (.inr ⟨j,rfl,m⟩) rfl
   ·have x:(Ak (AW a g i)).flat=false:=rfl
    simp! [x];exact A (.inl ⟨g,rfl,J⟩) rfl
  ·obtain⟨z,s,u,l,q⟩:=r
   subst l;rw[As,bC] at q ⊢;rw[<-mL] at q ⊢;exact G _ _ {_,_,_,_,rfl,'o'}
 ·obtain⟨N,z,s,u,l,q⟩:=r
  subst l;rw[As,bC,Dc] at q ⊢;simp! [aq cf];exact T 'o'
def Jf:List D->Ar Unit D:=BC 5 3 (LB GZ).1
def vb{g:List Nat}{d:Int}(m:Dir d)(b:a.length<=12)(f:∀k∈g,k<a.length)(b:g.Nodup)(n:Q (Ak (AW a g d)) ()):Aa (Jf [Ak a,.tup (AA g),.int d]) Q E:=by
 refine aF rfl 'z' ?_;delta LB;dsimp only;simp_all!;simp! [Ak,GL,aq bd];simp_all!;simp!;refine aN (λj Z c=>∃(i:Sl),Z=[Sl.bor (Ak a),.bor (.tup (AA g)),.bor (.int d),.own (.lst ((AW a (g.take j) d).map Tr.place)),i]) 0 {_,by rw[List.take_zero,mo];rfl} (λj e Z c b h P l=>?_) λZ c h=>?_
 ·obtain⟨i,e⟩:=h
  unfold AA at b;rw[AK] at b;cases q:g[j]? with
  | none=>rw[q] at b;cases b
  | some k=>
    rw[q] at b;cases b;subst e;rw[As];have c:=f k (Bq q);obtain⟨u,j⟩:∃u,a[k]?=some u:={_,AO c};have b:AR (Ak a) (.int k)=some u.place:=eL j;refine{_,rfl,?_};simp! [b];refine mD (p:=(u.x,u.y)) m ?_;simp! [Bc,aq bd];refine{k,k,rfl,?_,az _,l _ _ {.bor (.int k),?_}}
    ·delta CQ
     rw[if_pos 'o',if_pos (by rw[Ai,bU];omega)];simp
    ·have b:Af ((u.x,u.y).1+dx d,(u.x,u.y).2+dy d)=(u.to d).place:=rfl
     rw[b,mq j,As,Cc,q];rfl
 ·obtain⟨i,e⟩:=h
  subst e;have b:(AA g).length=g.length:=by unfold AA;rw[Ai]
  rw[As,b,CC];simp! [Fv,aq bd];exact n
instance Nx(A4 A3:Int)(sh:List Aj)(cur:List Tr)(d:Int)(n:Nat)(x:D):Prop:=(x=.non/\∀g,¬Bm A4 A3 sh cur d n g)\/∃g,x=.tup (AA g)/\Bm A4 A3 sh cur d n g
def Nx.flat{b c:Int}{d:Int}{n:Nat}(h:Nx b c e a d n x):x.flat=false:=by
 rcases h with⟨rfl,_⟩ | ⟨g,rfl,_⟩<;>rfl
instance muE(Z:Ae):Nat:=match (Z[7]?:Option Sl),(Z[5]?:Option Sl) with
 | some (Sl.bor (D.tup _)),some (Sl.own (D.lst l))=>30-l.length
 | _,_=>0
def Jg:List D->Ar Unit D:=BC 8 5 (LG G4 Jf Je).1
def vc{i e:Int}{n:Nat}{d:Int}(r:AH i e f a)(j:a[n]?=some t0)(u:Dir d)(c:Ds dd (Co f a))(B:(EV i e f a d n).length<=9->Q (.lst ((EV i e f a d n).map Ak)) ()):Aa (Jg [An i e f a,Ak a,dd,.int n,.int d]) Q E:=by
 refine aF rfl 'z' ?_;delta LG;dsimp only;have b:=r.few;have v:n<a.length:=(AQ.mp j).1;simp_all!;simp! [aQ];simp_all!;simp!;simp_all!;simp!;refine ak (mG (Q:=λx _=>Nx i e f a d n x) r j u c (λh=>.inl {rfl,λg o=>o.not j h}) λg h=>.inr ⟨g,rfl,h⟩) (λx A b=>?_) λx s z=>z
 have c:=b.flat;simp! [c];rw  [ar];refine dh (λZ A=>∃(p:List (List Tr)) (c:List Tr) (x:D),Z=[Sl.bor (An i e f a),.bor (Ak a),.bor dd,.bor (.int n),.bor (.int d),.own (.lst (p.map Ak)),.bor (Ak c),.bor x]/\C9 i e f d n a p c/\Nx i e f c d n x) (λZ _=>muE Z) {[],a,x,rfl,.nil,b} ?_;intro Z A q P l C m E;obtain⟨p,c,x,rfl,l,b⟩:=q;have m:=l.le9 r j u;have q:=l.ok r;have y:=l.steps;have q:∀p:List (List Tr),D.immL (p.map Ak)=true:=λp=>aq (λ_=>dm) p
 rcases b with⟨rfl,j⟩ | ⟨g,rfl,o⟩
 ·simp! [CT,D.isNon]
  refine E _ ?_;simp! [q];have:=l.is j;rw[this] at B;exact B m
 ·simp! [CT,D.isNon]
  simp_all!;simp!;refine vb u (by rw[y.len];omega) o.lt o.nd ?_;have j:=l.snoc o;have b:=j.steps;have m:=j.ok r;obtain⟨l,y⟩:∃l,l=AW c g d:={_,rfl};rw[<-y] at j b m ⊢;have r:(Ak l).flat=false:=rfl;simp! [r];rw  [ar];simp! [Bc,q];refine{_,bB dm (by rw[Ai];omega),?_};obtain⟨r,q⟩:∃t,l[n]?=some t:={_,AO (by rw[b.len];exact v)};rw[<-bw b.kind];refine ak (u8 (Q:=λx _=>Nx i e f l d n x) m q u (λh=>.inl {rfl,λg o=>o.not q h}) λg h=>.inr ⟨g,rfl,h⟩) (λy A m=>?_) λx s z=>z
  have h:=m.flat;simp! [h];rw[bw b.kind];refine C _ _ {p++[l],l,y,by rw[BD];rfl,j,m} ?_;have b:muE [Sl.bor (An i e f a),.bor (Ak a),.bor dd,.bor (.int n),.bor (.int d),.own (.lst (p.map Ak)),.bor (Ak c),.bor (.tup (AA g))]=30-(p.map Ak).length:=rfl;rw[b,Ai];rcases m with⟨rfl,_⟩ | ⟨b,rfl,_⟩
  ·show 0<30-p.length
   omega
  ·show 30-(p.map Ak++[Ak l]).length<30-p.length
   rw[A7,Ai];simp;omega
def Jh:List D->Ar Unit D:=BC 7 2 (LK GY Jg).1
def J4(n i:Nat)(d:D):D:=match d with
 | .tup [k,s]=>.tup [.tup [.int n,.int i,k],s]
 | _=>.non
def vd{n i:Nat}:(Es 1 (p.map Ak)).map (J4 n i)=(Da n i p).map Row.data:=by
 delta Es Da;rw[List.zipIdx_map,Df,Df,Df];refine List.map_congr_left λq _=>?_
 rfl
def ve{c b:Int}(p:AH c b f a)(A:(Bw c b f a a.length).length<=432->Q (.lst ((Bw c b f a a.length).map Row.data)) ()):Aa (Jh [An c b f a,Ak a]) Q E:=by
 refine aF rfl 'z' ?_;delta LK;dsimp only;have e:=eM p;have d:=p.few;simp_all!;simp!;refine mC e λg j=>?_
 have d:=j.flat;simp! [d];simp_all!;simp! [aQ];simp_all!;have d:Cw [Ak a]=some (.int a.length):=by delta Ak Cw;simp
 simp! [d];rw[bQ 'o' 'o'];refine aN (λi Z d=>∃(u m r:Sl),Z=[Sl.bor (An c b f a),.bor (Ak a),.own g,.own (.lst ((Bw c b f a i).map Row.data)),u,m,r]/\(Bw c b f a i).length<=36*i) 0 {_,_,_,rfl,by simp[Bw]} (λn e Z d q o P v=>?_) λZ d o=>?_
 ·obtain⟨u,m,r,l,h⟩:=o
  obtain⟨rfl,s⟩:=bD q;rw[Dc] at s;rw[As] at h l;rw[As] at v;subst l;have y:(0:Int)+(n:Int)=(n:Int):=by omega
  rw[y];obtain⟨t,x⟩:∃t,a[n]?=some t:={_,AO s};refine{_,rfl,?_};simp!;rw[show GH [.int 4]=some (Dk 0 4) from rfl];refine aN (λi Z d=>∃(m r:Sl),Z=[Sl.bor (An c b f a),.bor (Ak a),.own g,.own (.lst ((Bw c b f a n++CW c b f a n i).map Row.data)),.bor (.int n),m,r]/\(Bw c b f a n++CW c b f a n i).length<=36*n+9*i) 0 {_,_,by rw[show CW c b f a n 0=[] from rfl,Cp],by rw[show CW c b f a n 0=[] from rfl,Cp];exact h} (λi e Z d q o P2 g=>?_) λZ d o=>?_
  ·obtain⟨m,r,l,h⟩:=o
   obtain⟨rfl,d⟩:=bD q;rw[As] at h l;rw[As] at g;obtain⟨B,d⟩:∃B,B=Bw c b f a n++CW c b f a n i:={_,rfl};rw[mK,<-BH] at g;rw[<-d] at h l g;subst l;have d:(0:Int)+(i:Int)=(i:Int):=by omega
   rw[d];have q:Dir (i:Int):={'o','o'};refine{_,rfl,?_};simp_all!;simp!;refine vc p x q j λs=>?_
   obtain⟨p,z⟩:∃p,p=EV c b f a i n:={_,rfl};rw[<-z] at s ⊢;have d:D.immL (p.map Ak)=true:=aq (λ_=>dm) p;have j:Hw 1 [.lst (p.map Ak)]=some (Es 1 (p.map Ak)):=rfl;simp! [d];simp! [Bc,aq cf,j];refine cc (J4 n i) (λZ=>∃x y,Z=[x,y,.bor (.int n),.bor (.int i)]) {_,_,rfl} (λd q Z hI141=>?_) (aY (by rw[gw,Ai];omega)) ?_
   ·obtain⟨x,y,e⟩:=hI141
    subst e;obtain⟨j,x⟩:=DF q;obtain⟨s,d,rfl⟩:=gv x;rw[AK] at d;cases q:p[j]? with
    | none=>rw[q] at d;cases d
    | some s'=>
      rw[q] at d;have d:Ak s'=s:=Option.some.inj d;subst d;refine{_,rfl,{_,_,rfl},⟨rfl,rfl⟩,?_};have d:B3 [D.tup [.int n,.int i,.int (j+1:Nat)],Ak s']=some (Row.data ⟨n,i,j+1,s'⟩):=aO fK dm;simp! [fj,d];exact{rfl,cf _}
   ·rw[vd]
    refine{_,eI (aq cf _) (by rw[Ai,Ai,fL];omega),?_};rw[<-BD];rw[<-z] at g;exact g _ _ {_,_,rfl,by rw[A7,fL];omega}
  ·obtain⟨m,r,l,h⟩:=o
   subst l;rw[As,bC] at h ⊢;rw[<-mL] at h ⊢;exact v _ _ {_,_,_,rfl,'o'}
 ·obtain⟨u,m,r,l,h⟩:=o
  subst l;rw[As,bC,Dc] at h ⊢;simp! [aq cf];exact A 'o'
instance opp(d:Int):Int:=(d+2) % 4
section
variable{A4 A3:Int}{d:Int}{n:Nat}{k:Nat}
def vf(a:Dir d):Dir (opp d):=by rcases a.cases with r | r | r | r<;>subst r<;>exact{'z','z'}
def vg(a:Dir d):dx (opp d)=- dx d/\dy (opp d)=- dy d:=by rcases a.cases with r | r | r | r<;>subst r<;>exact{'z','z'}
def vh{a:Str}(b:Dir d):Bl a (opp d)=Bl a d:=by rcases b.cases with r | r | r | r<;>subst r<;>rfl
def mN{t:Tr}(e:Dir d):(t.to d).to (opp d)=t:=by
 obtain⟨a,b⟩:=vg e;obtain⟨w,h,c,s,x,y⟩:=t;simp only[Tr.to,a,b];have c:x+dx d + -dx d=x:=by omega
 have a:y+dy d + -dy d=y:=by omega
 rw[c,a]
theorem Bi.front{g:List Nat}(f:Bm A4 A3 c b d n g)(h:Bi A4 A3 c d n (AW b g d) k a):Bi A4 A3 c d n b (k+1) a:=by
 induction h with
 | zero=>exact .succ .zero f
 | succ _ e g=>exact .succ g e
theorem Cz.get(h:Cz A4 A3 f d n e l):∀{i:Nat} {s:List Tr},l[i]?=some s->Bi A4 A3 f d n e (i+1) s:=by
 induction h with
 | stop _=>intro i s a;simp at a
 | go b _ c=>
   intro i s a;cases i with
   | zero=>simp at a;subst a;exact .succ .zero b
   | succ i=>exact .front b (c (by simpa using a))
theorem Bi.ok(h:Bi A4 A3 b d n f k a)(g:AH A4 A3 b f):AH A4 A3 b a:=by
 induction h with
 | zero=>exact g
 | succ _ c e=>exact e.moved c
def vi{t:Tr}(o:Dir d)(c:AH A4 A3 x mid)(b:mid[n]?=some t)(q:Bm A4 A3 x mid d n [n]):Bm A4 A3 x (AW mid [n] d) (opp d) n [n]/\AW (AW mid [n] d) [n] (opp d)=mid:=by
 have cn:(AW mid [n] d)[n]?=some (t.to d):=by rw[bj,b];simp
 have v:∀m,m≠n->(AW mid [n] d)[m]?=mid[m]?:=λm f=>by
  rw[bj];cases mid[m]?<;>simp[f]
 have nl:n<mid.length:=(AQ.mp b).1;have j:=c.tr t (Bq b);have r:(t.to d).ahead (opp d)=t.cells:=by rw[<-mH,mN o]
 have s:=FY.mp c.apart;have a:∀m u,m≠n->mid[m]?=some u->∀c∈u.cells,c∉t.cells:=λm u f e c g l=>by
  obtain⟨p,rfl⟩:=AQ.mp e;obtain⟨i,rfl⟩:=AQ.mp b;rcases Nat.lt_or_gt_of_ne f with h | h
  ·exact s m n p i h c g l
  ·exact s n m i p h c l g
 refine{{'d','d',λm=>{λh=>?_,λh=>?_},λm h=>?_,λm h u e=>?_,λu e=>?_},?_}
 ·rw[Bd.mp h];exact .self
 ·induction h with
  | self=>simp
  | @more m' k' p u _ g l s i=>
    have f:=Bd.mp i;subst f;rw[cn] at g;cases g;by_cases i:k'=m'
    ·simp[i]
    ·rw[v k' i] at l
     obtain⟨c,p,g⟩:=s;rw[r] at g;exact absurd g (a k' u i l c p)
 ·rw[Bd.mp h,bU];exact nl
 ·rw[Bd.mp h,cn] at e
  cases e;have g1:=(q.ok n 'd' t b).1;refine{by show Bl t.ways (opp d)=true;rw[vh o];exact g1,λc a=>?_};rw[r] at a;refine{j.free c a,?_};delta Tr.cells at a;rw[ce] at a;have:=j.x0;have:=j.xw;have:=j.y0;have:=j.yh;simp only at a;omega
 ·rw[cn] at e;cases e
  exact{(q.str t b).1,λ_ m f=>Bd.mp f}
 ·apply FJ
  intro i;rw[bj];by_cases a:i=n
  ·subst a
   rw[cn,b];simp[mN o]
  ·rw[v i a]
   cases mid[i]?<;>simp[a]
def vj{g:List Nat}(f:g.Nodup)(h:n∈g)(c:∀m∈g,m=n):g=[n]:=by
 cases g with
 | nil=>cases h
 | cons a g=>
   have e:=c a 'd';subst e;cases g with
   | nil=>rfl
   | cons b g=>
     have:=c b 'd';subst this;simp at f
theorem Bi.weak(e:AH A4 A3 j f)(r:Dir d)(o:∀t∈f,t.s≠1)(h:Bi A4 A3 j d n f k i):Bi A4 A3 j (opp d) n i k f:=by
 induction h with
 | zero=>exact .zero
 | @succ k mid g h c s=>
   have m:n∈g:=(c.all n).mpr .self;have a:=AO (c.lt n m);obtain⟨t,a⟩:∃t,mid[n]?=some t:={_,a};obtain⟨b,p⟩:=c.str t a;have b:=h.ok e;have v:=b.tr t (Bq a);have g:t.s≠1:=by
    have e:=congrArg (λl=>l[n]?) h.kind;simp only[AK,a,BA] at e;cases q:f[n]? with
    | none=>rw[q] at e;cases e
    | some u=>
      rw[q] at e;have e:=Option.some.inj e;have es:t.s=u.s:=by
       have:=congrArg (λd=>AR d (.int 3)) e;have g:∀u:Tr,AR u.kind (.int 3)=some (.int u.s):=λ_=>rfl
       simp only[g,Option.some.injEq,D.int.injEq] at this;exact this
      rw[es];exact o u (Bq q)
   have s0:t.s=0:=by rcases v.st with e | e | e<;>omega
   have e:=vj c.nd m (p s0);subst e;obtain⟨g,h⟩:=vi r b a c;exact .front g (by rw[h];exact s)
theorem Bi.first(h:Bi A4 A3 l d n i k c):∀j,k=j+1->∃g,Bm A4 A3 l i d n g/\Bi A4 A3 l d n (AW i g d) j c:=by
 induction h with
 | zero=>intro j e;cases e
 | @succ k mid g a f h=>
   intro j e;cases e;cases k with
   | zero=>cases a;exact{g,f,.zero}
   | succ k=>
     obtain⟨g0,a,b⟩:=h k rfl;exact{g0,a,.succ b f}
theorem Cz.has(h:Cz A4 A3 i d n f l):∀{k:Nat} {a:List Tr},Bi A4 A3 i d n f (k+1) a->l[k]?=some a:=by
 induction h with
 | stop c=>
   intro k a b;obtain⟨g,e,_⟩:=b.first k rfl;exact absurd e (c g)
 | @go f g l e c h=>
   intro k a b;obtain⟨g,c,b⟩:=b.first k rfl;have:=e.one c;subst this;cases k with
   | zero=>cases b;rfl
   | succ k=>exact h b
def vm(j:AH A4 A3 i b)(h:b[n]?=some t)(g:Dir d):∃l,Cz A4 A3 i d n b l:=by
 have m:∀f p a,C9 A4 A3 i d n b p a->p.length+f=10->∃l,Cz A4 A3 i d n b l:=λf=>by
  induction f with
  | zero=>intro p a c e;have:=c.le9 j h g;omega
  | succ f j=>
    intro p a c e;by_cases h:∃g,Bm A4 A3 i a d n g
    ·obtain⟨g,e⟩:=h
     exact j _ _ (c.snoc e) (by rw[A7];simp;omega)
    ·exact{_,c.alng (.stop λg e=>h ⟨g,e⟩)}
 exact m 10 [] b .nil rfl
def vn{m:Nat}(i:AH A4 A3 f c)(p:c[n]?=some t)(o:n<m)(b:Dir d)(q:1<=k)(h:Bi A4 A3 f d n c k a):⟨n,d,k,a⟩∈Bw A4 A3 f c m:=by
 obtain⟨l,e⟩:=vm i p b;obtain⟨k,rfl⟩:∃j,k=j+1:={k-1,'o'};have g:=e.has h;obtain⟨d',rfl⟩:∃d':Nat,d=d':={d.toNat,by have:=b.1;omega};delta Bw CW;refine DK.mpr {n,DY.mpr o,DK.mpr {d',DY.mpr (by have:=b.2;omega),?_}};rw[e.is];delta Da;refine BF.mpr {(a,k+1),?_,rfl};rw[List.mem_zipIdx_iff_le_and_getElem?_sub];exact{'o',by rw[show k+1-1=k by omega];exact g}
end
section
variable{α:Type}[DecidableEq α]
def AI(W:List α):List α->List α
 | []=>[]
 | e::es=>if e∈W then AI W es else e::AI (W++[e]) es
theorem iC:∀(W a b:List α),AI W (a++b)=AI W a++AI (W++AI W a) b
 | W,[],b=>by simp[AI]
 | W,e::a,b=>by
   show (if e∈W then AI W (a++b) else e::AI (W++[e]) (a++b))=(if e∈W then AI W a else e::AI (W++[e]) a)++AI (W++(if e∈W then AI W a else e::AI (W++[e]) a)) b;by_cases h:e∈W
   ·rw[if_pos h,if_pos h];exact iC W a b
   ·rw[if_neg h,if_neg h,iC,List.cons_append,BH];rfl
def mO{e:α}:AI W (a++[e])=AI W a++(if e∈W++AI W a then [] else [e]):=by
 rw[iC];rfl
theorem cM{x:α}:∀{es W:List α},x∈AI W es↔x∈es/\x∉W
 | [],W=>by simp[AI]
 | e::es,W=>by
   unfold AI;by_cases h:e∈W
   ·rw[if_pos h,cM]
    constructor
    ·exact λ⟨a,b⟩=>{Ed _ a,b}
    ·rintro ⟨a,b⟩
     rcases AE.mp a with rfl | a
     ·exact absurd h b
     ·exact⟨a,b⟩
   ·rw[if_neg h,AE,cM]
    constructor
    ·rintro (rfl | ⟨a,b⟩)
     ·exact⟨EY,h⟩
     ·exact{Ed _ a,λz=>b (Ff _ z)}
    ·rintro ⟨a,b⟩
     by_cases q:x=e
     ·exact .inl q
     ·refine .inr {(AE.mp a).resolve_left q,λz=>?_}
      rcases BN.mp z with z | z
      ·exact b z
      ·exact q (Bd.mp z)
theorem cN:∀{es W:List α},W.Nodup->(W++AI W es).Nodup
 | [],W,h=>by simpa [AI] using h
 | e::es,W,h=>by
   unfold AI;by_cases q:e∈W
   ·rw[if_pos q];exact cN h
   ·rw[if_neg q]
    have f:(W++[e]).Nodup:=FH.mpr {h,'d',λa d b c e'=>by rw[Bd.mp c] at e';exact q (e'▸d)};have:=cN (es:=es) f;rwa [BH] at this
structure Bf(α:Type)[DecidableEq α] where
 nb:α->List α
 srt:List α->List α
 perm:∀l,(srt l).Perm l
 s:α
instance Bf.st(B:Bf α):Nat->List α×List α
 | 0=>([B.s],[B.s])
 | n+1=>(B.srt (AI (B.st n).2 ((B.st n).1.flatMap B.nb)),(B.st n).2++AI (B.st n).2 ((B.st n).1.flatMap B.nb))
abbrev Bf.L(B:Bf α)(n:Nat):List α:=(B.st n).1
abbrev Bf.S(B:Bf α)(n:Nat):List α:=(B.st n).2
variable{B:Bf α}
theorem Bf.nd:∀n,(B.S n).Nodup
 | 0=>by show [B.s].Nodup;simp
 | n+1=>cN (Bf.nd n)
instance Bf.F(B:Bf α)(n:Nat):List (List α):=(List.range n).map B.L
def Bf.F_succ{n:Nat}:B.F (n+1)=B.F n++[B.L n]:=by delta Bf.F;rw[F2,BD];rfl
theorem Bf.all:∀n,(B.F (n+1)).flatten.Perm (B.S n)
 | 0=>by show ([[B.s]]:List (List α)).flatten.Perm [B.s];simp
 | n+1=>by
   rw[Bf.F_succ,List.flatten_append];refine(Bf.all n).append ?_;simp only[FI,List.flatten_nil,Cp];exact B.perm _
def Bf.mem_S{n:Nat}{x:α}:x∈B.S n↔∃i,i<=n/\x∈B.L i:=by
 rw[<-(Bf.all n).mem_iff,List.mem_flatten];delta Bf.F;constructor
 ·rintro ⟨l,c,a⟩
  obtain⟨i,b,rfl⟩:=BF.mp c;exact{i,by have:=DY.mp b;omega,a}
 ·rintro ⟨i,b,a⟩
  exact{_,BF.mpr {i,DY.mpr 'o',rfl},a}
def Bf.new{n:Nat}{x:α}:x∈B.L (n+1)↔(∃p∈B.L n,x∈B.nb p)/\x∉B.S n:=by
 show x∈B.srt _↔_;rw[(B.perm _).mem_iff,cM,DK]
theorem Bf.lt{i j:Nat}{x:α}(h:i<j)(b:x∈B.L i)(a:x∈B.L j):False:=by
 cases j with
 | zero=>omega
 | succ j=>exact(Bf.new.mp a).2 (Bf.mem_S.mpr {i,'o',b})
def Bf.one{i j:Nat}{x:α}(b:x∈B.L i)(a:x∈B.L j):i=j:=by
 rcases Nat.lt_trichotomy i j with h | h | h
 ·exact(Bf.lt h b a).elim
 ·exact h
 ·exact(Bf.lt h a b).elim
open H in
def Bf.next{i:Nat}{p q:α}(a:p∈B.L i)(b:q∈B.nb p):∃j,j<=i+1/\q∈B.L j:=by
 by_cases h:q∈B.S i
 ·obtain⟨j,c,z⟩:=Bf.mem_S.mp h
  exact{j,'o',z}
 ·exact{i+1,Ap _,Bf.new.mpr {⟨p,a,b⟩,h}}
def Bf.nil{i:Nat}(h:B.L i=[]):B.L (i+1)=[]:=by
 refine List.eq_nil_iff_forall_not_mem.mpr λx b=>?_
 obtain⟨⟨p,a,_⟩,_⟩:=Bf.new.mp b;rw[h] at a;cases a
theorem Bf.nils{i j:Nat}(a:i<=j)(h:B.L i=[]):B.L j=[]:=by
 induction a with
 | refl=>exact h
 | step _ a=>exact Bf.nil a
theorem Bf.le:∀{n:Nat},(∀i,i<=n->B.L i≠[])->n+1<=(B.S n).length
 | 0,_=>by show 1<=([B.s]:List α).length;simp
 | n+1,h=>by
   have:=Bf.le (n:=n) λi b=>h i 'o'
   have a:0<(B.L (n+1)).length:=by
    cases q:B.L (n+1) with
    | nil=>exact absurd q (h _ (Ap _))
    | cons a l=>simp
   have e:(B.L (n+1)).length=(AI (B.st n).2 ((B.st n).1.flatMap B.nb)).length:=(B.perm _).length_eq;show n+1+1<=((B.st n).2++AI (B.st n).2 ((B.st n).1.flatMap B.nb)).length;rw[A7];have t:n+1<=(B.st n).2.length:=this;omega
theorem Bf.good{G:α->Prop}(c:G B.s)(b:∀p q,G p->q∈B.nb p->G q):∀n,∀x∈B.L n,G x
 | 0,x,a=>by rw[Bd.mp a];exact c
 | n+1,x,a=>by
   obtain⟨⟨p,d,e⟩,_⟩:=Bf.new.mp a;exact b p x (Bf.good c b n p d) e
def Bf.goodS{G:α->Prop}(c:G B.s)(a:∀p q,G p->q∈B.nb p->G q){n:Nat}{x:α}(b:x∈B.S n):G x:=by
 obtain⟨i,_,z⟩:=Bf.mem_S.mp b;exact Bf.good c a i x z
def Bf.keep{n:Nat}(h:B.L n=[]){j:Nat}(b:n<=j){x:α}(a:x∈B.S j):∃i,i<n/\x∈B.L i:=by
 obtain⟨i,_,z⟩:=Bf.mem_S.mp a;by_cases q:i<n
 ·exact⟨i,q,z⟩
 ·rw[Bf.nils 'o' h] at z;cases z
end
instance Tr.pos(t:Tr):Aj:=(t.x,t.y)
section
variable{A4 A3:Int}{sh:List Aj}{ts us vs:List Tr}
def mP{m:Nat}(h:r∈Bw A4 A3 sh ts m):r.n<m/\Dir r.d/\1<=r.k/\Bi A4 A3 sh r.d r.n ts r.k r.ts:=by
 delta Bw CW at h;obtain⟨n,g,h⟩:=DK.mp h;obtain⟨d,a,h⟩:=DK.mp h;have g:=DY.mp g;have a:=DY.mp a;delta Da at h;obtain⟨⟨s,i⟩,e,rfl⟩:=BF.mp h;obtain⟨a,b,c⟩:=List.mem_zipIdx e;have f:(EV A4 A3 sh ts d n)[i-1]?=some s:=by
  rw[c];exact AO _
 have e:∃l,Cz A4 A3 sh d n ts l:=by
  apply Classical.byContradiction;intro e;delta EV at f;rw[dif_neg e] at f;simp at f
 obtain⟨l,b⟩:=e;rw[b.is] at f;have:=b.get f;rw[show i-1+1=i by omega] at this;exact{g,{by show (0:Int)<=d;omega,by show (d:Int)<4;omega},a,this}
structure EL(t u:Tr):Prop where
 w:u.w=t.w
 h:u.h=t.h
 ways:u.ways=t.ways
 s:u.s=t.s
 x:Bl t.ways 0=false->u.x=t.x
 y:Bl t.ways 1=false->u.y=t.y
def EL.refl:EL t t:={rfl,rfl,rfl,rfl,λ_=>rfl,λ_=>rfl}
def EL.trans(a:EL t u)(b:EL u v):EL t v:=
 {b.w.trans a.w,b.h.trans a.h,b.ways.trans a.ways,b.s.trans a.s,λh=>(b.x (by rw[a.ways];exact h)).trans (a.x h),λh=>(b.y (by rw[a.ways];exact h)).trans (a.y h)}
def EL.to{d:Int}(a:Dir d)(h:Bl t.ways d=true):EL t (t.to d):=by
 refine{rfl,rfl,rfl,rfl,λe=>?_,λe=>?_}
 ·show t.x+dx d=t.x
  rcases a.cases with rfl | rfl | rfl | rfl
  ·rw[h] at e;cases e
  ·simp[dx]
  ·have:Bl t.ways 2=Bl t.ways 0:=rfl
   rw[<-this,h] at e;cases e
  ·simp[dx]
 ·show t.y+dy d=t.y
  rcases a.cases with rfl | rfl | rfl | rfl
  ·simp[dy]
  ·rw[h] at e;cases e
  ·simp[dy]
  ·have:Bl t.ways 3=Bl t.ways 1:=rfl
   rw[<-this,h] at e;cases e
structure BW(ts us:List Tr):Prop where
 len:us.length=ts.length
 at_:∀(i:Nat) t u,ts[i]?=some t->us[i]?=some u->EL t u
def BW.refl:BW ts ts:={rfl,λi t u b a=>by rw[b] at a;cases a;exact .refl}
def BW.trans(a:BW ts us)(b:BW us vs):BW ts vs:={b.len.trans a.len,λi t v c e=>by
 have f:i<us.length:=by rw[a.len];exact(AQ.mp c).1
 have d:=AO f;exact(a.at_ i t _ c d).trans (b.at_ i _ v d e)}
open H in
theorem Bi.sibs{d:Int}{n k:Nat}(c:Dir d)(h:Bi A4 A3 sh d n ts k us):BW ts us:=by
 induction h with
 | zero=>exact .refl
 | @succ k mid g b e a=>
   refine a.trans {bU,λi t u b a=>?_};rw[bj,b] at a;have a:(if i∈g then t.to d else t)=u:=Option.some.inj a;subst a;split
   ·rename_i d;exact .to c (e.ok i d t b).1
   ·exact .refl
theorem BW.kind(a:BW ts us):us.map Tr.kind=ts.map Tr.kind:=by
 refine FJ λi=>?_
 rw[AK,AK];cases q:ts[i]? with
 | none=>rw[List.getElem?_eq_none (by rw[a.len];exact List.getElem?_eq_none_iff.mp q)]
 | some t=>
   have c:i<us.length:=by rw[a.len];exact(AQ.mp q).1
   have b:=AO c;have z:=a.at_ i t _ q b;rw[b];show some (kd _ _ _ _)=some (kd _ _ _ _);rw[z.w,z.h,z.ways,z.s]
instance Tr.at_(t:Tr)(p:Aj):Tr:={ t with x:=p.1,y:=p.2 }
instance atT(ts:List Tr)(ps:List Aj):List Tr:=List.zipWith Tr.at_ ts ps
theorem BW.at_eq(a:BW ts us):atT ts 'm'=us:=by
 refine FJ λi=>?_
 delta atT;rw[List.getElem?_zipWith,AK];cases q:ts[i]? with
 | none=>rw[List.getElem?_eq_none (by rw[a.len];exact List.getElem?_eq_none_iff.mp q)]
 | some t=>
   have c:i<us.length:=by rw[a.len];exact(AQ.mp q).1
   have b:=AO c;have z:=a.at_ i t _ q b;rw[b];show some (Tr.at_ t (Tr.pos us[i]))=some us[i];have:∀u:Tr,EL t u->Tr.at_ t u.pos=u:=λu z=>by
    obtain⟨w,h,a,s,x,y⟩:=u;obtain⟨c,a,d,b,_,_⟩:=z;simp only at c a d b;delta Tr.at_ Tr.pos;rw[c,a,d,b]
   rw[this _ z]
def bV:Ak us=Ad 'm':=by delta Ak;show D.tup _=D.tup _;rw[Df];rfl
def HL(A4:Int)(t:Tr):Nat:=if Bl t.ways 0 then (A4-t.w+1).toNat else 1
def G5(A3:Int)(t:Tr):Nat:=if Bl t.ways 1 then (A3-t.h+1).toNat else 1
def FA(A4 A3:Int)(t:Tr):List Aj:=(List.range (HL A4 t)).flatMap λi:Nat=>(List.range (G5 A3 t)).map λj:Nat=>(if Bl t.ways 0 then (i:Int) else t.x,if Bl t.ways 1 then (j:Int) else t.y)
theorem iD{α β:Type}{f:α->List β}{n:Nat}:∀{l:List α},(∀a,(f a).length=n)->(l.flatMap f).length=l.length*n
 | [],_=>by simp
 | a::l,h=>by rw[List.flatMap_cons,A7,iD h,h a,CD,Nat.succ_mul,Cq]
def vo{t:Tr}:(FA A4 A3 t).length=HL A4 t*G5 A3 t:=by
 delta FA;rw[iD (n:=G5 A3 t) (λi=>by rw[Ai,Ef]),Ef]
def vp(h:FV A4 A3 sh t):((FA A4 A3 t).length:Int)=CN A4 A3 t.w t.h t.ways:=by
 have b:((A4-t.w+1).toNat:Int)=A4-t.w+1:=Int.toNat_of_nonneg (by have:=h.x0;have:=h.xw;omega);have a:((A3-t.h+1).toNat:Int)=A3-t.h+1:=Int.toNat_of_nonneg (by have:=h.y0;have:=h.yh;omega);rw[vo,Int.natCast_mul];delta HL G5;rcases h.ways with e | e | e | e<;>rw[e]
 ·rw[if_pos 'z',if_pos 'z',b,a];rfl
 ·rw[if_pos 'z',if_neg 'z',b];delta CN;rw[if_neg 'z',if_pos 'z'];exact Int.mul_one _
 ·rw[if_neg 'z',if_pos 'z',a];delta CN;rw[if_neg 'z',if_neg 'z',if_pos 'z'];exact Int.one_mul _
 ·rw[if_neg 'z',if_neg 'z'];delta CN;rw[if_neg 'z',if_neg 'z',if_neg 'z'];rfl
def vq(h:EL t u)(a:FV A4 A3 sh u):u.pos∈FA A4 A3 t:=by
 have c:=a.x0;have d:=a.xw;have b:=a.y0;have e:=a.yh;have d:=h.w;have a:=h.h;delta FA;rw[DK];refine{if Bl t.ways 0 then u.x.toNat else 0,?_,BF.mpr {if Bl t.ways 1 then u.y.toNat else 0,?_,?_}}
 ·delta HL
  rw[DY];split<;>omega
 ·delta G5
  rw[DY];split<;>omega
 ·delta Tr.pos
  refine Prod.ext ?_ ?_
  ·show (if Bl t.ways 0 then ((if Bl t.ways 0 then u.x.toNat else 0:Nat):Int) else t.x)=u.x
   cases q:Bl t.ways 0 with
   | true=>simp only[if_true];exact Int.toNat_of_nonneg c
   | false=>simp only[Du,if_false];exact(h.x q).symm
  ·show (if Bl t.ways 1 then ((if Bl t.ways 1 then u.y.toNat else 0:Nat):Int) else t.y)=u.y
   cases q:Bl t.ways 1 with
   | true=>simp only[if_true];exact Int.toNat_of_nonneg b
   | false=>simp only[Du,if_false];exact(h.y q).symm
def FB(A4 A3:Int):List Tr->List (List Aj)
 | []=>[[]]
 | t::ts=>(FA A4 A3 t).flatMap λp=>(FB A4 A3 ts).map (p::·)
theorem mR:∀{ts:List Tr},(∀t∈ts,FV A4 A3 sh t)->((FB A4 A3 ts).length:Int)=BM A4 A3 ts
 | [],_=>rfl
 | t::ts,h=>by
   show (((FA A4 A3 t).flatMap λp=>(FB A4 A3 ts).map (p::·)).length:Int)=CN A4 A3 t.w t.h t.ways*BM A4 A3 ts;rw[<-vp (h t EY),<-mR λu a=>h u (Ed _ a),iD (n:=(FB A4 A3 ts).length) (λp=>by rw[Ai]),Int.natCast_mul]
theorem mS:∀{ts us:List Tr},BW ts us->(∀u∈us,FV A4 A3 sh u)->us.map Tr.pos∈FB A4 A3 ts
 | [],us,a,_=>by
   have:us=[]:=Hb.mp a.len;subst this;exact Bd.mpr rfl
 | t::ts,[],a,_=>by have:=a.len;simp at this
 | t::ts,u::us,a,h=>by
   show u.pos::us.map Tr.pos∈(FA A4 A3 t).flatMap λp=>(FB A4 A3 ts).map (p::·)
   refine DK.mpr {u.pos,vq (a.at_ 0 t u rfl rfl) (h u EY),BF.mpr {_,mS {by have:=a.len;simpa using this,λi x y b c=>a.at_ (i+1) x y b c} λv a=>h v (Ed _ a),rfl}}
theorem mU{α:Type}[DecidableEq α]:∀{l m:List α},l.Nodup->(∀x∈l,x∈m)->l.length<=m.length
 | [],m,_,_=>AF _
 | a::l,m,h,s=>by
   have c:=Fp.mp h;have:=mU (l:=l) (m:=m.erase a) c.2 λx b=>(List.mem_erase_of_ne (λe:x=a=>c.1 (e▸b))).mpr (s x (Ed _ b))
   rw[List.length_erase_of_mem (s a EY)] at this;have p:0<m.length:=List.length_pos_of_mem (s a EY);simp only[CD];omega
end
section
variable{A4 A3:Int}
instance Gd(A4 A3:Int)(sh:List Aj)(ts:List Tr)(p:List Aj):Prop:=∃us,p=us.map Tr.pos/\AH A4 A3 sh us/\BW ts us
def Gd.few(d:AH A4 A3 f b)(a:BM A4 A3 b<=81)(c:l.Nodup)(h:∀p∈l,Gd A4 A3 f b p):l.length<=81/\okS l=true:=by
 have a:l.length<=(FB A4 A3 b).length:=mU c λp a=>by
  obtain⟨us,rfl,e,c⟩:=h p a;exact mS c e.tr
 have g:=mR d.tr;refine{'o',?_};delta okS;rw[Bool.and_eq_true];refine{aA 'o',?_};rw[Bool.or_eq_true];by_cases e:b=[]
 ·subst e
  have:(FB A4 A3 []).length=1:=rfl;exact .inl (aA 'o')
 ·refine .inr (List.all_eq_true.mpr λp a=>?_)
  obtain⟨us,rfl,_,c⟩:=h p a;have:us≠[]:=λz=>by subst z;have:=c.len;exact e (Hb.mp this.symm)
  cases us with
  | nil=>exact absurd rfl this
  | cons _ _=>rfl
def AZ(A4 A3:Int)(sh:List Aj)(ts:List Tr):Bf (List Aj) where
 nb:=λp=>(Bw A4 A3 sh (atT ts p) ts.length).map λr=>r.ts.map Tr.pos
 srt:=λl=>Bz Ts.stO l
 perm:=λl=>bR (O:=Ts.stO) l
 s:=ts.map Tr.pos
def gd0(c:AH A4 A3 b a):Gd A4 A3 b a (AZ A4 A3 b a).s:={a,rfl,c,.refl}
def cO(h:BW a us):(AZ A4 A3 b a).nb 'm'=(Bw A4 A3 b us us.length).map λr=>r.ts.map Tr.pos:=by
 show (Bw A4 A3 b (atT a 'm') a.length).map _=_;rw[h.at_eq,h.len]
def gd1(a:Gd A4 A3 d b p)(e:q∈(AZ A4 A3 d b).nb p):Gd A4 A3 d b q:=by
 obtain⟨us,rfl,g,c⟩:=a;rw[cO c] at e;obtain⟨r,h,rfl⟩:=BF.mp e;obtain⟨_,f,_,a⟩:=mP h;exact{r.ts,rfl,a.ok g,c.trans (a.sibs f)}
def gdL(c:AH A4 A3 b a){n:Nat}:∀p∈(AZ A4 A3 b a).L n,Gd A4 A3 b a p:=Bf.good (gd0 c) (λ_ _=>gd1) n
def gdS(d:AH A4 A3 b a){n:Nat}:∀p∈(AZ A4 A3 b a).S n,Gd A4 A3 b a p:=λp c=>Bf.goodS (gd0 d) (λ_ _=>gd1) c
end
abbrev SD(W:List (List Aj))(vs:List D):D:=.dct (.non::W.map Ad) vs
theorem mV:∀p:List Aj,ER (p.map Dp)=some (CS p)
 | []=>rfl
 | a::p=>by
   show (Ge (Dp a)).bind (λx=>(ER (p.map Dp)).map λr=>x::r)=_;rw[mV p];rfl
def dn(p:List Aj):AN (Ad p)=some (CS p):=mV p
def iE(p:List Aj):AD (CS p)=Ad p:=by
 delta AD CS;show D.tup _=D.tup _;rw[Df];rfl
theorem mW:∀{p q:List Aj},CS p=CS q->p=q
 | [],[],_=>rfl
 | [],_::_,h=>by cases h
 | _::_,[],h=>by cases h
 | a::p,b::q,h=>by
   have c:=List.cons.inj h;have d:a.1=b.1/\a.2=b.2:=by simpa using c.1
   rw[mW c.2,Prod.ext d.1 d.2]
theorem iF:∀{W:List (List Aj)} {a:List D},a.length=W.length->(AC (CS p) (W.map Ad) a).isSome=decide (p∈W)
 | [],a,h=>by cases a with
   | nil=>simp[AC]
   | cons _ _=>cases h
 | q::W,[],h=>by cases h
 | q::W,u::a,h=>by
   show (AC (CS p) (Ad q::W.map Ad) (u::a)).isSome=_;unfold AC;rw[dn];by_cases e:q=p
   ·subst e;simp
   ·have e':CS q≠CS p:=λz=>e (mW z)
    have b:¬p=q:=λz=>e z.symm
    rw[if_neg (by simpa using e'),iF (by simpa using h)];simp[b]
def mX(h:a.length=W.length)(b:p∉W):AV (CS p) v (W.map Ad) a=((W++[p]).map Ad,a++[v]):=by
 delta AV;rw[iF h,if_neg (by simpa using b),iE,BD];rfl
def mY(a:Bool)(h:vs.length=W.length):Dy a (Ad p) (SD W vs)=some (.bl (if a then !decide (p∈W) else decide (p∈W))):=by
 delta Dy;show (AN (Ad p)).map _=_;rw[dn,BA,iF h]
def vt(h:a.length=W.length)(d:p∉W)(c:v.imm=true)(b:W.length<sizeLine):Fy (SD W a) (Ad p) v=some (SD (W++[p]) (a++[v])):=by
 delta Fy;show (AN (Ad p)).bind _=_;rw[dn,Eg,if_pos {c,by rw[Ai];exact b},mX h d]
def cP(p:List Aj):(Ad p).imm=true:=by rw[ao];exact aq az p
def aV(l:List (List Aj)):D.immL (l.map Ad)=true:=aq cP l
section
variable{i:Nat}{Z:Ae}{st:D}{Q:D->D->Prop}{QF:Fl->D->Prop}{E:AG->D->Prop}{fk fv:Fn D}
def dq:hnd? Z i=true↔Z[i]?=some .hnd:={fE,λh=>by delta hnd?;rw[h]}
def vv{a:Bool}:Aa (Gj a i fk Z st) Q E↔Z[i]?=some .hnd/\Aa (fk Z st) (λc b=>Aa (Au (Dy a c b) b) Q E) E:=by
 delta Gj;by_cases h:hnd? Z i=true
 ·rw[if_pos h,ae];exact{λq=>{dq.mp h,q},λq=>q.2}
 ·rw[if_neg h];exact{λq=>q.elim,λq=>absurd (dq.mpr q.1) h}
def vx:Aa (HF i Z st) Q E↔Z[i]?=some .hnd/\Aa (Au (GR [st]) st) Q E:=by
 delta HF;by_cases h:hnd? Z i=true
 ·rw[if_pos h];exact{λq=>{dq.mp h,q},λq=>q.2}
 ·rw[if_neg h];exact{λq=>q.elim,λq=>absurd (dq.mpr q.1) h}
def vy:Aa (IJ i fk fv Z st) QF E↔Aa (fv Z st) (λv b=>Z[i]?=some .hnd/\Aa (fk Z b) (λk a=>∃d,Fy a k v=some d/\QF (.nx Z) d) E) E:=by
 delta IJ;refine aJ λv b=>?_
 by_cases h:hnd? Z i=true
 ·rw[if_pos h]
  refine Iff.trans (aJ (P:=λk a=>∃d,Fy a k v=some d/\QF (.nx Z) d) λk a=>?_) {λq=>{dq.mp h,q},λq=>q.2};rw[ae,au];exact Iff.rfl
 ·rw[if_neg h];exact{λq=>q.elim,λq=>absurd (dq.mpr q.1) h}
end
def Ji:List D->D->Ar D D:=D5 1 1 IP.1
def vz(h:W.length<=1000)(d:Q .non (SD W a)):Aa (Ji [] (SD W a)) Q E:=by
 refine cZ rfl 'z' ?_;delta IP;dsimp only;have c:GR [SD W a]=some (.int W.length):=by
  delta GR;show (if (W.map Ad).length<=1000 then some (D.int (W.map Ad).length) else none)=_;rw[Ai,if_pos h]
 have b:decide ((2000:Int)<(W.length:Int))=false:=ax 'o';simp! [vx,c,AU,b];exact d
instance lbF:List D->D->Ar D D:=FT 7 3 (IR Jh Ji).1
def vA{S:Type}{n p:Nat}{B:Ay S}{l:List D}{a:S}{Q:D->S->Prop}{E:AG->S->Prop}(e:l.length+1=p)(c:p<=n)(h:Aa (B (D9 n l) a) (λb a=>match b with
 | .rt d=>Q d a
 | .nx _=>Q .non a
 | _=>False) E):Aa (FT n p B l a) Q E:=by
 delta FT;rw[if_pos ⟨e,c⟩];cases q:B (D9 n l) a with
 | bad=>rw[q] at h;exact h
 | exc x u=>rw[q] at h;exact h
 | ok b u=>rw[q] at h;cases b<;>exact h
section
variable{A4 A3:Int}
def vB{n:Nat}{R:List D}{Q:D->D->Prop}{E:AG->D->Prop}(T:AH A4 A3 b c)(m:BM A4 A3 c<=81)(f:R.length=((AZ A4 A3 b c).S n).length)(hi:D.immL R=true)(Y:∀a,a.length=((AZ A4 A3 b c).S (n+1)).length->D.immL a=true->Q (.lst (((AZ A4 A3 b c).L (n+1)).map Ad)) (SD ((AZ A4 A3 b c).S (n+1)) a)) :
 Aa (lbF [An A4 A3 b c,.fl (((AZ A4 A3 b c).L n).map Ad)] (SD ((AZ A4 A3 b c).S n) R)) Q E:=by
 refine vA rfl 'z' ?_;delta IR;dsimp only;obtain⟨B,d⟩:∃B,B=AZ A4 A3 b c:={_,rfl};have e:∀n,∀p∈B.S n,Gd A4 A3 b c p:=λn=>by rw[d];exact gdS T
 have o:∀n,∀p∈B.L n,Gd A4 A3 b c p:=λn=>by rw[d];exact gdL T
 have N:∀us,BW c us->B.nb 'm'=(Bw A4 A3 b us us.length).map λr=>r.ts.map Tr.pos:=λus h=>by rw[d];exact cO h
 have U:∀p q,Gd A4 A3 b c p->q∈B.nb p->Gd A4 A3 b c q:=λp q=>by rw[d];exact gd1
 have E:∀l,B.srt l=Bz Ts.stO l:=λl=>by rw[d];rfl
 rw[<-d] at Y f ⊢;clear d;have J:∀es:List (List Aj),(∀p∈es,Gd A4 A3 b c p)->(B.S n++AI (B.S n) es).length<=81:=λes h=>(Gd.few T m (cN (Bf.nd n)) λp m=>by
  rcases BN.mp m with z | z
  ·exact e n p z
  ·exact h p (cM.mp z).1).1
 rw[show D9 7 [An A4 A3 b c,D.fl ((B.L n).map Ad)]=[Sl.bor (An A4 A3 b c),.bor (.fl ((B.L n).map Ad)),.hnd,.no,.no,.no,.no] from rfl];simp_all!;simp! [aQ];simp_all!;simp!;refine aN (λi Z d=>∃(W s u:Sl) (a:List D),Z=[Sl.bor (An A4 A3 b c),.bor (.fl ((B.L n).map Ad)),.hnd,.own (.lst ((AI (B.S n) (((B.L n).take i).flatMap B.nb)).map Ad)),W,s,u]/\d=SD (B.S n++AI (B.S n) (((B.L n).take i).flatMap B.nb)) a/\a.length=(B.S n++AI (B.S n) (((B.L n).take i).flatMap B.nb)).length/\D.immL a=true) 0 {_,_,_,R,rfl,by simp[AI],by simpa [AI] using f,hi} (λi e Z d g x P Q=>?_) λZ d x=>?_
 ·obtain⟨W,s,u,a,v,es,G,C⟩:=x
  rw[AK] at g;cases q:(B.L n)[i]? with
  | none=>rw[q] at g;cases g
  | some p=>
    rw[q] at g;cases g;subst v es;obtain⟨us,rfl,M,y⟩:=o n p (Bq q);have O:(B.L n).take (0+i+1)=(B.L n).take (0+i)++[us.map Tr.pos]:=by rw[As,Cc,q];rfl
    have P:∀q∈((B.L n).take (0+i)).flatMap B.nb,Gd A4 A3 b c q:=λj f=>by
     obtain⟨p',A,z⟩:=DK.mp f;exact U p' j (o n p' (Gy A)) z
    have h:((B.L n).take (0+i+1)).flatMap B.nb=((B.L n).take (0+i)).flatMap B.nb++B.nb 'm':=by rw[O,Fh];simp
    have I:∀q∈B.nb 'm',Gd A4 A3 b c q:=λj f=>U _ j (o n _ (Bq q)) f
    rw[h] at Q;generalize ((B.L n).take (0+i)).flatMap B.nb=es at P Q G;clear O h;refine{_,rfl,?_};simp_all!;simp!;rewrite [<-bV,<-bw y.kind];refine ve M λf=>?_
    have q:=N us y;generalize Bw A4 A3 b us us.length=rows at f q;simp! [aq cf];refine aN (λj Z d=>∃(s u:Sl) (a:List D),Z=[Sl.bor (An A4 A3 b us),.bor (.fl ((B.L n).map Ad)),.hnd,.own (.lst ((AI (B.S n) (es++(B.nb 'm').take j)).map Ad)),.bor (Ak us),s,u]/\d=SD (B.S n++AI (B.S n) (es++(B.nb 'm').take j)) a/\a.length=(B.S n++AI (B.S n) (es++(B.nb 'm').take j)).length/\D.immL a=true) 0 {s,u,a,'d','d',by simpa using G,C} (λj e Z d g x P2 f=>?_) λZ d x=>?_
    ·obtain⟨s,u,e,v,i,d,h⟩:=x
     rw[AK] at g;cases M:rows[j]? with
     | none=>rw[M] at g;cases g
     | some r=>
       rw[M] at g;cases g;subst v i;have N:(B.nb 'm').take (0+j+1)=(B.nb 'm').take (0+j)++[r.ts.map Tr.pos]:=by rw[As,Cc,q,AK,M];rfl
       have g:∀p∈es++(B.nb 'm').take (0+j),Gd A4 A3 b c p:=λp m=>by
        rcases BN.mp m with z | z
        ·exact P p z
        ·exact I p (Gy z)
       rw[N,<-BH,mO] at f;have O:=J _ g;generalize es++(B.nb 'm').take (0+j)=es2 at g f d O;generalize j:AI (B.S n) es2=N at f d O;refine{_,rfl,?_};simp! [vv,bV];rewrite [mY true d];simp!;by_cases M:r.ts.map Tr.pos∈B.S n++N
       ·rw[if_neg (by rw[aA M];decide)]
        rw[if_pos M,Cp] at f;exact f _ _ {_,_,e,by rw[bV],rfl,d,h}
       ·rw[if_pos (by rw[ax M];rfl)]
        rw[if_neg M] at f;simp_all!;simp! [vy];have g:r.push.imm=true:=fK;have j:(D.tup [r.push,Ad 'm']).imm=true:=by rw[ao];simp only[D.immL,g,cP,De]
        rewrite [aO g (cP _)];simp!;refine{_,vt d M j (lt_size 'o'),?_};simp! [Bc,aV];have g:N.length<=81:=by rw[A7] at O;omega
        refine{_,bB (cP _) (by rw[Ai];omega),?_};simp!;refine f _ _ {_,_,e++[D.tup [r.push,Ad 'm']],by rw[bV,BD];rfl,by rw[<-BH],?_,?_}
        ·rw[<-BH,A7,A7,d];rfl
        ·exact bI h (show (D.imm _&&true)=true by rw[j];rfl)
    ·obtain⟨s,u,e,v,i,d,h⟩:=x
     subst v i;have f:0+(rows.map Row.data).length=(B.nb 'm').length:=by rw[q,Ai,Ai,As]
     rw[f,CC] at d ⊢;have O:=J (es++B.nb 'm') λp m=>by
      rcases BN.mp m with z | z
      ·exact P p z
      ·exact I p z
     simp!;refine vz 'o' ?_;exact Q _ _ {_,_,_,e,by rw[bw y.kind],rfl,d,h}
 ·obtain⟨W,s,u,a,v,es,G,C⟩:=x
  subst v es;rw[As,Ai,CC] at G ⊢;simp!;have e:=Gd.few T m (l:=AI (B.S n) ((B.L n).flatMap B.nb)) (FH.mp (cN (Bf.nd n))).2.1 λp m=>by
   obtain⟨p',A,z⟩:=DK.mp (cM.mp m).1;exact U p' p (o n p' A) z
  have d:Fz [D.lst ((AI (B.S n) ((B.L n).flatMap B.nb)).map Ad)]=some (.lst ((B.L (n+1)).map Ad)):=by
   delta Fz;show (Cy ((AI (B.S n) ((B.L n).flatMap B.nb)).map Ad)).bind _=_;rw[eG,Eg,if_pos e.2];show _=some (D.lst ((B.srt (AI (B.S n) ((B.L n).flatMap B.nb))).map Ad));rw[E]
  rewrite [d];simp! [aV];exact Y a G C
end
def Jj:List D->Ar Unit D:=BC 6 3 (IT lbF).1
abbrev Bb(l:List (List (List Aj))):List D:=l.map λm=>D.fl (m.map Ad)
structure K1(B:Bf (List Aj))(most N k:Nat):Prop where
 full:∀i,i<N->B.L i≠[]
 cut:(B.L N=[]/\k=N/\N<=most)\/(N=most+1/\k=most)
instance muL(Z:Ae):Nat:=match (Z[4]?:Option Sl) with
 | some (.own (.lst l))=>100-l.length
 | _=>0
def bE(m:List (List Aj)):(D.fl (m.map Ad)).imm=true:=by
 unfold D.imm;first | rfl | exact aV m
def bW(l:List (List (List Aj))):D.immL (Bb l)=true:=aq bE l
def eN{a b:Int}:(An a b c d).imm=true:=by
 delta An;simp only[ao,D.immL,ag,aq az,aq bS,De]
def mZ(l:List (List (List Aj))):(D.fl (Bb l)).imm=true:=by
 unfold D.imm;first | rfl | exact bW l
def m3:IM [a,b]=some (.tup [a,b]):=if_pos (aY 'd')
def vC(p:List Aj):(Ad p).dep<=2:=by
 show D.depL (p.map Dp)+1<=2;have:=cw (n:=1) l9 p;exact Fi this
def cQ(l:List (List Aj)):D.depL (l.map Ad)<=2:=cw (n:=2) vC l
section
variable{A4 A3:Int}{sh:List Aj}{ts:List Tr}
def vD{most:Nat}(f:AH A4 A3 sh ts)(h:BM A4 A3 ts<=81)(q:∀N k d,K1 (AZ A4 A3 sh ts) most N k->N<=81->d.length=((AZ A4 A3 sh ts).S k).length->D.immL d=true->Q (.tup [.fl (Bb ((AZ A4 A3 sh ts).F N)),SD ((AZ A4 A3 sh ts).S k) d]) ()) :
 Aa (Jj [An A4 A3 sh ts,Ak ts,.int most]) Q E:=by
 refine aF rfl 'z' ?_;delta IT;dsimp only;simp_all!;rewrite [bV];simp! [lF];have b:DU [Ad (ts.map Tr.pos)]=some (.lst [Ad (ts.map Tr.pos)]):=bi (aV [ts.map Tr.pos]) 'd';have a:D.immL ((ts.map Tr.pos).map Dp)=true:=aq az _;refine{_,dn _,?_};rewrite [iE];simp_all!;simp! [aQ];simp_all!;simp! [b,a];obtain⟨B,g⟩:∃B,B=AZ A4 A3 sh ts:={_,rfl};have o:∀{n:Nat} {d:List D} {Q:D->D->Prop} {E:AG->D->Prop},d.length=(B.S n).length->D.immL d=true->(∀e,e.length=(B.S (n+1)).length->D.immL e=true->Q (.lst ((B.L (n+1)).map Ad)) (SD (B.S (n+1)) e))->Aa (lbF [An A4 A3 sh ts,.fl ((B.L n).map Ad)] (SD (B.S n) d)) Q E:=λa b c=>by
  rw[g] at a c ⊢;exact vB f h a b c
 have m:∀n,(B.S n).length<=81:=λn=>(Gd.few f h (Bf.nd n) (by rw[g];exact gdS f)).1
 have c:B.L 0=[ts.map Tr.pos]:=by rw[g];rfl
 have a:B.S 0=[ts.map Tr.pos]:=by rw[g];rfl
 have j:∀k,(∀i,i<k->B.L i≠[])->k<=81:=λk h=>by
  cases k with
  | zero=>omega
  | succ k=>exact Az (Bf.le λi f=>h i 'o') (m k)
 rw[<-g] at q;clear g;simp_all!;refine dh (λZ b=>∃k d,Z=[Sl.bor (An A4 A3 sh ts),.bor (Ad (ts.map Tr.pos)),.bor (.int most),.own (SD (B.S k) d),.own (.lst (Bb (B.F k))),.own (.lst ((B.L k).map Ad))]/\k<=most/\(∀i,i<k->B.L i≠[])/\d.length=(B.S k).length/\D.immL d=true) (λZ _=>muL Z) {0,[.non],by rw[c,a];rfl,'o',λi f=>by omega,by rw[a];rfl,rfl} λZ b g P a y c v=>?_
 obtain⟨k,d,rfl,r,c,n,f⟩:=g;have p:=j k c;have s:=iB (neg:=true) (l:=(B.L k).map Ad) (Az (cQ _) 'z');have b:(Bb (B.F k)).length=k:=by delta Bb Bf.F;rw[Ai,Ai,Ef]
 have g:Cw [D.lst (Bb (B.F k))]=some (.int k):=by
  delta Cw;simp only[b]
 have a:∀l:List (List Aj),(l.map Ad=[])=(l=[]):=λl=>propext List.map_eq_nil_iff
 simp! [aQ,s,g,AU,D.bool?,a];have m:∀(x:Sl) (d:List D) (F:List (List (List Aj))),fzS [Sl.bor (An A4 A3 sh ts),Sl.bor (Ad (ts.map Tr.pos)),Sl.bor (D.int most),Sl.own (SD (B.S k) d),Sl.own (D.lst (Bb F)),x] 4=some [Sl.bor (An A4 A3 sh ts),Sl.bor (Ad (ts.map Tr.pos)),Sl.bor (D.int most),Sl.own (SD (B.S k) d),Sl.bor (D.fl (Bb F)),x]:=λx d F=>by
  show (DM (D.lst (Bb F))).map _=_;delta DM;simp only[bW,if_true];rfl
 have u:fzS [Sl.bor (An A4 A3 sh ts),Sl.bor (Ad (ts.map Tr.pos)),Sl.bor (D.int most),Sl.own (SD (B.S k) d),Sl.own (D.lst (Bb (B.F k))),Sl.own (D.lst ((B.L k).map Ad))] 5=some [Sl.bor (An A4 A3 sh ts),Sl.bor (Ad (ts.map Tr.pos)),Sl.bor (D.int most),Sl.own (SD (B.S k) d),Sl.own (D.lst (Bb (B.F k))),Sl.bor (D.fl ((B.L k).map Ad))]:=by
  show (DM (D.lst ((B.L k).map Ad))).map _=_;delta DM;simp only[aV,if_true];rfl
 by_cases g:B.L k=[]
 ·rw[if_neg (by rw[aA g];decide)]
  refine v _ ?_;simp_all!;simp! [aQ,s,D.bool?,a];rw[if_neg (by rw[aA g];decide)];with_reducible refine hN_ _ _ ?_
  refine fD.mpr {_,m _ _ _,?_};simp! [l4,l3];refine{_,if_pos (mZ _),_,if_pos f,?_};rewrite [m3];simp!;exact q k k d {c,.inl ⟨g,rfl,r⟩} p n f
 ·rw[if_pos (by rw[ax g];rfl)]
  by_cases p:k<most
  ·rw[if_pos (aA 'o')]
   simp_all!;refine fD.mpr {_,u,?_};simp! [Bc,bW];refine{_,bB (bE _) (by rw[b];omega),?_};simp! [ue];refine{SD (B.S k) d,by delta FU;exact if_pos f,by rw[eN,bE];rfl,'z',o n f λe p r=>?_};rw[if_pos (show D.flat (D.lst ((B.L (k+1)).map Ad))=true from aV _)];refine y _ _ {k+1,e,by rw[Bf.F_succ];delta Bb;rw[BD];rfl,'o',λi h=>?_,p,r} ?_
   ·by_cases e:i=k
    ·subst e;exact g
    ·exact c i 'o'
   ·show 100-(Bb (B.F k)++[D.fl ((B.L k).map Ad)]).length<100-(Bb (B.F k)).length
    rw[A7,b];show 100-(k+1)<100-k;omega
  ·rw[if_neg (by rw[ax 'o'];decide)]
   have e:k=most:=by omega
   subst e;refine v _ ?_;simp_all!;simp! [aQ,s,D.bool?,a];rw[if_pos (by rw[ax g];rfl)];refine fD.mpr {_,u,?_};simp! [Bc,bW];refine{_,bB (bE _) (by rw[b];omega),?_};simp!;rewrite [show Bb (B.F k)++[D.fl ((B.L k).map Ad)]=Bb (B.F (k+1)) by rw[Bf.F_succ];delta Bb;rw[BD];rfl];refine fD.mpr {_,m _ _ _,?_};simp! [l4,l3];refine{_,if_pos (mZ _),_,if_pos f,?_};rewrite [m3];simp!;have a:∀i,i<k+1->B.L i≠[]:=λi h=>by
    by_cases e:i=k
    ·subst e;exact g
    ·exact c i 'o'
   exact q (k+1) k d {a,.inr ⟨rfl,rfl⟩} (j _ a) n f
def HM:List D->Ar Unit D:=BC 4 2 (LO Jj).1
def vE(c:AH A4 A3 sh ts)(d:BM A4 A3 ts<=81)(g:∀N,(AZ A4 A3 sh ts).L N=[]->(∀i,i<N->(AZ A4 A3 sh ts).L i≠[])->Q (.lst ((Bz Ts.stO ((AZ A4 A3 sh ts).S N)).map Ad)) ()) :
 Aa (HM [An A4 A3 sh ts,Ak ts]) Q E:=by
 refine aF rfl 'z' ?_;delta LO;dsimp only;simp_all!;simp!;refine vD (most:=2000) c d λN k i f e b a=>?_
 simp! [a];have e:(AZ A4 A3 sh ts).L N=[]/\k=N:=by
  rcases f.cut with⟨a,b,_⟩ | ⟨a,_⟩
  ·exact⟨a,b⟩
  ·omega
 obtain⟨h,rfl⟩:=e;have a:=(Gd.few c d (Bf.nd k) (gdS c)).2;have b:HI [SD ((AZ A4 A3 sh ts).S k) i]=some (.lst ((Bz Ts.stO ((AZ A4 A3 sh ts).S k)).map Ad)):=by
  delta HI;show (Cy (((AZ A4 A3 sh ts).S k).map Ad)).bind _=_;rw[eG,Eg,if_pos a]
 rewrite [b];simp! [aV];exact{.inr (aV _),g k h f.full}
end
def Jk:List D->Dr->Ar Dr D:=D5 7 1 (MT CL Fc).1
def m4(h:l.length<=127):HE [.lst (l.map Af)]=some (.lst ((BV l).map Af)):=by
 show (CM (l.map Dp)).bind (λa=>if a.length<128 then some (D.lst ((BV a).map Dp)) else none)=_;rw[hH,Eg,if_pos 'o'];rfl
instance gap(f y:Int):Int:=8*((y / 2+f) % 2)
def G6(f y:Int):List Aj:=((List.range 9).filter λx:Nat=>decide ((x:Int)≠gap f y)).map λx:Nat=>((x:Int),y)
def B5(f:Int)(k:Nat):List Aj:=(([1,3,5,7]:List Int).take k).flatMap (G6 f)
def vF:(BV (B5 0 4)).Sublist (AL 9 9 (0,0)):=by decide +kernel
def vG:(BV (B5 1 4)).Sublist (AL 9 9 (0,0)):=by decide +kernel
def m5(f:Int)(k:Nat):(B5 f k).length<=36:=by
 have c:∀y,(G6 f y).length<=9:=λy=>by
  delta G6;rw[Ai];exact Az (EX _ _) (by rw[Ef];omega)
 have b:∀l:List Int,(l.flatMap (G6 f)).length<=9*l.length:=λl=>by
  induction l with
  | nil=>simp
  | cons a l d=>rw[List.flatMap_cons,A7,CD];have:=c a;omega
 have d:(([1,3,5,7]:List Int).take k).length<=4:=by rw[CO];exact Nat.min_le_right _ _
 exact Az (b _) 'o'
def vH{st:Dr}{Q:D->Dr->Prop}{E:AG->Dr->Prop}(hs:st.2<2 ^ 38)(hq:∀C t r,AH 9 9 C [t]->BM 9 9 [t]<=81->r.2<=st.2+4->Q (.tup [An 9 9 C [t],Ak [t]]) r):Aa (Jk [] st) Q E:=by
 refine cZ rfl 'z' ?_;delta MT;dsimp only;simp_all!;simp! [aQ];simp_all!;simp!;refine aB 'z' 'z' 'o' λf st1 a1 b1 c1=>?_
 simp!;refine cK (λZ A=>∃(R O:Sl) (k:Nat),(k=0\/k=4)/\Z=[Sl.hnd,.own (.lst ((B5 f k).map Af)),.bor (.int f),R,O,.no,.no]/\A.2<=st.2+2) (λP hP=>?_) λZ A u=>?_
 ·simp!
  refine aB 'z' 'z' 'o' λv A a2 b2 c2=>?_
  simp! [AU];split
  ·rewrite [di ag ag ag ag]
   simp!;refine aN (λi Z r=>∃(R O:Sl),Z=[Sl.hnd,.own (.lst ((B5 f i).map Af)),.bor (.int f),R,O,.no,.no]/\r=A) 0 {_,_,rfl,rfl} (λi e Z r he u P2 pn=>?_) λZ r u=>?_
   ·obtain⟨R,O,W,es⟩:=u
    obtain⟨y,ey,hy,hi,h0,h8⟩:∃y:Int,e=.int y/\([1,3,5,7]:List Int)[i]?=some y/\i<4/\0<y/\y<8:=by
     rcases i with _ | _ | _ | _ | i
     ·cases he;exact{1,rfl,rfl,'z','z','z'}
     ·cases he;exact{3,rfl,rfl,'z','z','z'}
     ·cases he;exact{5,rfl,rfl,'z','z','z'}
     ·cases he;exact{7,rfl,rfl,'z','z','z'}
     ·simp at he
    subst W es ey;refine{_,rfl,?_};simp_all!;have cd:F9 y 2:=by delta F9;omega
    have cm:DR 8 ((y / 2+f) % 2):=.inr {'o','o'};simp! [iOp,BL,AU,if_pos cd,show (0:Int)<2 by decide,fF cm];simp! [Bc,aq az];rw[bQ 'o' 'o'];refine cv (λn g Z b=>∃x,g=((((List.range n).filter λx:Nat=>decide ((x:Int)≠gap f y)).map λx:Nat=>((x:Int),y))).map Af/\Z=[x,.bor (.int y),.bor (.int (gap f y))]/\b=r) 0 {_,rfl,rfl,rfl} (λj d g Z b B u=>?_) λg Z b u=>?_
    ·obtain⟨x,M,J,N⟩:=u
     obtain⟨rfl,hj⟩:=bD B;subst M J N;rw[As] at *;refine{_,rfl,?_};simp! [Np,Nq,Nr];have fl:(((List.range j).filter λx:Nat=>decide ((x:Int)≠gap f y))).length<=9:=Az (EX _ _) (by rw[Ef];omega);by_cases hg:(j:Int)=gap f y
     ·rw[if_neg (by simp[hg])]
      exact{_,by rw[F2,F1];simp[hg],rfl}
     ·rw[if_pos (by simpa using hg),aO ag ag]
      simp!;refine{lt_size (by rw[Ai,Ai];omega),_,?_,rfl};rw[F2,F1];simp[hg,Af]
    ·obtain⟨x,M,J,N⟩:=u
     subst M J N;have ll:(B5 f i).length<=36:=m5 f i;rw[As,bC];have fl:(((List.range 9).filter λx:Nat=>decide ((x:Int)≠gap f y))).length<=9:=Az (EX _ _) (by rw[Ef];omega);refine{_,eI (aq az _) (by rw[Ai,Ai,Ai];show _+(((List.range 9).filter λx:Nat=>decide ((x:Int)≠gap f y))).length<=1000;omega),?_};have el:B5 f (0+i+1)=B5 f i++G6 f y:=by
      delta B5;rw[As,Cc,hy,Fh];simp
     refine pn _ _ {.bor (.int y),.bor (.int (gap f y)),?_,rfl};rw[el,BD];rfl
   ·obtain⟨R,O,W,es⟩:=u
    subst W es;exact hP _ _ {_,_,4,.inr rfl,rfl,'o'}
  ·exact hP _ _ {_,_,0,.inl rfl,rfl,'o'}
 ·obtain⟨R,O,k,hk,W,t2⟩:=u
  subst W;simp_all!;simp! [di,aO];refine cL (w:=9) (h:=9) (ways:="none") (s:=0) (p:=(0,0)) 'z' 'z' 'z' 'z' ?_;simp! [aq az];refine cv (λn g Z b=>∃x,g=(((AL 9 9 (0,0)).take n).filter λc=>!decide (c∈B5 f k)).map Af/\Z=[x,.bor (.lst ((B5 f k).map Af))]/\b=A) 0 {_,rfl,rfl,rfl} (λj d g Z b B u=>?_) λg Z b u=>?_
  ·obtain⟨x,M,J,N⟩:=u
   rw[AK] at B;cases q:(AL 9 9 (0,0))[j]? with
   | none=>rw[q] at B;cases B
   | some c=>
     rw[q] at B;cases B;subst M J N;have tk:(AL 9 9 (0,0)).take (j+1)=(AL 9 9 (0,0)).take j++[c]:=by rw[Cc,q];rfl
     have fl:(((AL 9 9 (0,0)).take j).filter λc=>!decide (c∈B5 f k)).length<=81:=Az (EX _ _) (by rw[CO];exact Az (Nat.min_le_right _ _) (bv (w:=9) (h:=9) 'z' 'z'));rw[As] at *;refine{_,rfl,?_};simp! [fG.2];by_cases I:c∈B5 f k
     ·rw[if_neg (by rw[aA I];decide)]
      exact{_,by rw[tk,F1];simp[I],rfl}
     ·rw[if_pos (by rw[ax I];rfl)]
      refine{az c,lt_size (by rw[Ai];omega),_,?_,rfl};rw[tk,F1];simp[I]
  ·obtain⟨x,M,J,N⟩:=u
   subst M J N;rw[As,Ai,CC];simp! [aq az];have Y:((AL 9 9 (0,0)).filter λc=>!decide (c∈B5 f k)).length<=81:=Az (EX _ _) (bv (w:=9) (h:=9) 'z' 'z');have f01:f=0\/f=1:=by omega
   have U:0<((AL 9 9 (0,0)).filter λc=>!decide (c∈B5 f k)).length:=by
    refine List.length_pos_of_mem (a:=(4,0)) ?_;rcases hk with rfl | rfl<;>rcases f01 with rfl | rfl<;>decide +kernel
   have shs:(BV (B5 f k)).Sublist (AL 9 9 (0,0)):=by
    rcases hk with rfl | rfl
    ·exact List.nil_sublist _
    ·rcases f01 with rfl | rfl
     ·exact vF
     ·exact vG
   have G:∀c∈(AL 9 9 (0,0)).filter λc=>!decide (c∈B5 f k),c∈AL 9 9 (0,0)/\c∉BV (B5 f k):=λc I=>by
    have:=List.mem_filter.mp I;exact{this.1,λz=>by simpa [(eD _).mem_iff.mp z] using this.2}
   generalize ((AL 9 9 (0,0)).filter λc=>!decide (c∈B5 f k))=cells at Y U G;have lc:Cw [.lst (cells.map Af)]=some (.int cells.length):=by delta Cw;simp
   simp_all!;simp! [lc];refine aB 'o' 'o' 'o' λv st3 a3 b3 c3=>?_
   obtain⟨d,B,ed⟩:=ef (l:=cells.map Af) (aq az _) a3 (by rw[Ai];exact b3);obtain⟨p,hp,rfl⟩:=BF.mp B;rw[ed];have pf:(Af p).flat=false:=rfl;obtain⟨hp1,hp2⟩:=G p hp;simp! [pf];have sl:HE [.lst ((B5 f k).map Af)]=some (.lst ((BV (B5 f k)).map Af)):=m4 (Az (m5 f k) 'z');rewrite [sl];simp! [Fv,aq az];refine aB 'z' 'z' 'o' λo st4 a4 b4 c4=>?_
   have T:=shs;generalize BV (B5 f k)=C at T hp2;have ot:B3 [D.int 1,D.int 1,D.str "any",D.int o]=some (kd 1 1 "any" o):=di ag ag bn ag;have ot1:B3 [kd 1 1 "any" o]=some (D.tup [kd 1 1 "any" o]):=cG (by simp only[D.immL,ik];rfl) 'd';have EK:FV 9 9 C ⟨1,1,"any",o,p.1,p.2⟩:=by
    have m:=ce.mp hp1;refine{by show (1:Int)<=1;omega,by show (1:Int)<=1;omega,by show 0<=p.1;omega,by show p.1+1<=9;omega,by show 0<=p.2;omega,by show p.2+1<=9;omega,.inl rfl,by show o=0\/o=1\/o=-1;omega,λc I=>?_};have m2:=ce.mp (show c∈AL 1 1 (p.1,p.2) from I);have:c=p:=Prod.ext 'o' 'o';rw[this];exact hp2
   have ok:AH 9 9 C [⟨1,1,"any",o,p.1,p.2⟩]:={'z','z','z','z',T,'d',λt ht=>by rw[Bd.mp ht];exact EK,Ha _ _};have im:D.immL [D.int 9,D.int 9,D.tup (List.map Af C),D.tup [kd 1 1 "any" o]]=true:=by
    simp only[D.immL,ao,ag,ik,aq az,De]
   have ot2:B3 [D.int 9,D.int 9,D.tup (List.map Af C),D.tup [kd 1 1 "any" o]]=some (An 9 9 C [⟨1,1,"any",o,p.1,p.2⟩]):=cG im 'd';have ot3:B3 [Af p]=some (Ak [⟨1,1,"any",o,p.1,p.2⟩]):=cG (by simp only[D.immL,az];rfl) 'd';have hi:(An 9 9 C [⟨1,1,"any",o,p.1,p.2⟩]).imm=true:=by
    delta An;simp only[D.immL,ao,ag,aq bS,aq az,De]
   have si:(Ak [⟨1,1,"any",o,p.1,p.2⟩]).imm=true:=by
    show D.immL _=true;exact aq bd _
   rewrite [ot];simp!;rewrite [ot1];simp!;rewrite [ot2];simp!;rewrite [ot3];simp!;rewrite [aO hi si];simp!;exact{.inl (by simp only[ao,D.immL,hi,si,De]),hq _ _ _ ok (by show CN 9 9 1 1 "any" * 1<=81;decide) 'o'}
section
variable{i:Nat}{B:Bf (List Aj)}{N:Nat}
abbrev FD(W:List (List Aj)):D:=SD W (W.map λ_=>.bl true)
def vI(h:p∉W):AV (CS p) (.bl true) (W.map Ad) (W.map λ_=>.bl true)=((W++[p]).map Ad,(W++[p]).map λ_=>.bl true):=by
 rw[mX 'd' h,BD (f:=λ_=>D.bl true)];rfl
def vJ(h:Z[i]?=some (.own (FD W))):D7 Z i=some (W.map Ad,W.map λ_=>.bl true):=by
 delta D7;rw[h];exact if_pos (aq (λ_=>aE) W)
def vK(h:B.L N=[]):(B.F N).flatten.Perm (B.S N):=by
 have:=Bf.all (B:=B) N;rw[Bf.F_succ,h,List.flatten_append] at this;simpa using this
end
def Jl:List D->Ar Unit D:=BC 8 2 (MH HK).1
instance muR(Z:Ae):Nat:=match (Z[3]?:Option Sl) with
 | some (.own (.lst l))=>100-l.length
 | _=>0
def vL{B:Bf (List Aj)}{n j:Nat}(a:j<n):(Bb (B.F n))[j]?=some (.fl ((B.L j).map Ad)):=by
 delta Bb Bf.F;rw[AK,AK,List.getElem?_range a];rfl
def cR{B:Bf (List Aj)}{n:Nat}:(Bb (B.F n)).length=n:=by delta Bb Bf.F;rw[Ai,Ai,Ef]
def iG{B:Bf (List Aj)}{k:Nat}:Bb (B.F k)++[.fl ((B.L k).map Ad)]=Bb (B.F (k+1)):=by rw[Bf.F_succ];delta Bb;rw[BD];rfl
def vM{B:Bf (List Aj)}{k:Nat}:AR (.lst (Bb (B.F (k+1)))) (.int (-1))=some (.fl ((B.L k).map Ad)):=by
 show im (BG (Bb (B.F (k+1))) (-1))=_;rw[<-iG,oY];exact if_pos (bE _)
section
variable{A4 A3:Int}
def vN{Q:D->Unit->Prop}{E:AG->Unit->Prop}(G:AH A4 A3 b a)(m:BM A4 A3 a<=81)(s:∀N,(AZ A4 A3 b a).L N=[]->(∀i,i<N->(AZ A4 A3 b a).L i≠[])->N<=81->Q (.lst (Bb ((AZ A4 A3 b a).F N))) ()) :
 Aa (Jl [An A4 A3 b a,Ak a]) Q E:=by
 refine aF rfl 'z' ?_;delta MH;dsimp only;simp_all!;rewrite [bV];simp! [lF];have g:DU [Ad (a.map Tr.pos)]=some (.lst [Ad (a.map Tr.pos)]):=bi (aV [a.map Tr.pos]) 'd';refine{_,dn _,?_};rewrite [iE];obtain⟨B,c⟩:∃B,B=AZ A4 A3 b a:={_,rfl};have d:∀n,∀p∈B.S n,Gd A4 A3 b a p:=λn=>by rw[c];exact gdS G
 have o:∀n,∀p∈B.L n,Gd A4 A3 b a p:=λn=>by rw[c];exact gdL G
 have R:∀us,BW a us->B.nb 'm'=(Bw A4 A3 b us us.length).map λr=>r.ts.map Tr.pos:=λus h=>by rw[c];exact cO h
 have M:∀p q,Gd A4 A3 b a p->q∈B.nb p->Gd A4 A3 b a q:=λp q=>by rw[c];exact gd1
 have C:∀l,B.srt l=Bz Ts.stO l:=λl=>by rw[c];rfl
 have j:B.L 0=[a.map Tr.pos]:=by rw[c];rfl
 have e:B.S 0=[a.map Tr.pos]:=by rw[c];rfl
 rw[<-c] at s;clear c;have f:∀n,(B.S n).length<=81:=λn=>(Gd.few G m (Bf.nd n) (d n)).1
 have c:∀k,(∀i,i<k->B.L i≠[])->k<=81:=λk h=>by
  cases k with
  | zero=>omega
  | succ k=>exact Az (Bf.le λi U=>h i 'o') (f k)
 have Q:∀n,∀es:List (List Aj),(∀p∈es,Gd A4 A3 b a p)->(B.S n++AI (B.S n) es).length<=81:=λn es h=>(Gd.few G m (cN (Bf.nd n)) λp m=>by
  rcases BN.mp m with z | z
  ·exact d n p z
  ·exact h p (cM.mp z).1).1
 simp_all!;have J:DM (.lst [Ad (a.map Tr.pos)])=some (.fl [Ad (a.map Tr.pos)]):=if_pos (aV [a.map Tr.pos]);have d:DU [.fl [Ad (a.map Tr.pos)]]=some (.lst (Bb (B.F 1))):=by
  rw[show Bb (B.F 1)=[.fl ((B.L 0).map Ad)] from rfl,j];exact bi (bW [[a.map Tr.pos]]) 'd'
 simp! [hQ,g,J,d,bW];simp_all!;have h:-(1:Int)=-1:=rfl;refine dh (λZ j=>∃(k:Nat) (g A f d:Sl),Z=[Sl.bor (An A4 A3 b a),.bor (Ad (a.map Tr.pos)),.own (FD (B.S k)),.own (.lst (Bb (B.F (k+1)))),g,A,f,d]/\∀i,i<k->B.L i≠[]) (λZ _=>muR Z) {0,_,_,_,_,by rw[e];rfl,λi U=>by omega} λZ j n P e Y v u=>?_
 obtain⟨k,g,A,f,d,rfl,v⟩:=n;have j:=c k v;have g:=iB (neg:=true) (l:=(B.L k).map Ad) (Az (cQ _) 'z');have e:Bh true (.fl ((B.L k).map Ad)) (.lst [])=some (.bl (!decide ((B.L k).map Ad=[]))):=g;have c:∀l:List (List Aj),(l.map Ad=[])=(l=[]):=λl=>propext List.map_eq_nil_iff
 have g:=vM (B:=B) (k:=k);simp! [aQ,h,g,e,D.bool?,c];by_cases E:B.L k=[]
 ·rw[if_neg (by rw[aA E];decide)]
  refine u _ ?_;have c:Iv none (some (-1)) (.lst (Bb (B.F (k+1))))=some (.lst (Bb (B.F k))):=by
   have e:HT.sIx (k+1) (k+1) (some (-1))=k:=by
    show ((-1)+((k+1:Nat):Int)).toNat=k;omega
   show (if D.immL (Bb (B.F (k+1)))=true then some (D.lst (L2.cutD (Bb (B.F (k+1))) none (some (-1)))) else none)=_;rw[if_pos (bW _)];delta L2.cutD;rw[HT.sIx_none,Nat.sub_zero,List.drop_zero,cR,e,<-iG,List.take_left' cR]
  simp! [h,c,bW];exact s k E v j
 ·rw[if_pos (by rw[ax E];rfl)]
  simp_all!;simp! [aQ];simp_all!;simp! [h,g,D.fl?];refine aN (λi Z g=>∃(A f d:Sl),Z=[Sl.bor (An A4 A3 b a),.bor (Ad (a.map Tr.pos)),.own (FD (B.S k++AI (B.S k) (((B.L k).take i).flatMap B.nb))),.own (.lst (Bb (B.F (k+1)))),.own (.lst ((AI (B.S k) (((B.L k).take i).flatMap B.nb)).map Ad)),A,f,d]) 0 {_,_,_,by rw[show AI (B.S k) (((B.L k).take 0).flatMap B.nb)=[] from rfl,Cp];rfl} (λi e Z g h n P2 y=>?_) λZ g n=>?_
  ·obtain⟨A,f,d,s⟩:=n
   rw[AK] at h;cases q:(B.L k)[i]? with
   | none=>rw[q] at h;cases h
   | some p=>
     rw[q] at h;cases h;subst s;obtain⟨us,rfl,I,u⟩:=o k p (Bq q);have P:((B.L k).take (0+i+1)).flatMap B.nb=((B.L k).take (0+i)).flatMap B.nb++B.nb 'm':=by rw[As,Cc,q,Fh];simp
     have T:∀q∈((B.L k).take (0+i)).flatMap B.nb,Gd A4 A3 b a q:=λj c=>by
      obtain⟨p',x,z⟩:=DK.mp c;exact M p' j (o k p' (Gy x)) z
     have O:∀q∈B.nb 'm',Gd A4 A3 b a q:=λj c=>M _ j (o k _ (Bq q)) c
     rw[P] at y;generalize ((B.L k).take (0+i)).flatMap B.nb=es at T y;clear P;refine{_,rfl,?_};simp!;rewrite [<-bV (us:=us),<-bw u.kind];with_reducible refine va I λc=>?_
     have q:=R us u;generalize Bw A4 A3 b us us.length=rows at c q;simp! [aq cf];refine aN (λj Z g=>∃(f d:Sl),Z=[Sl.bor (An A4 A3 b us),.bor (Ad (a.map Tr.pos)),.own (FD (B.S k++AI (B.S k) (es++(B.nb 'm').take j))),.own (.lst (Bb (B.F (k+1)))),.own (.lst ((AI (B.S k) (es++(B.nb 'm').take j)).map Ad)),.bor (Ak us),f,d]) 0 {f,d,'d'} (λj e Z g h n I c=>?_) λZ g n=>?_
     ·obtain⟨f,d,s⟩:=n
      rw[AK] at h;cases I:rows[j]? with
      | none=>rw[I] at h;cases h
      | some r=>
        rw[I] at h;cases h;subst s;have P:(B.nb 'm').take (0+j+1)=(B.nb 'm').take (0+j)++[r.ts.map Tr.pos]:=by rw[As,Cc,q,AK,I];rfl
        have g:∀p∈es++(B.nb 'm').take (0+j),Gd A4 A3 b a p:=λp m=>by
         rcases BN.mp m with z | z
         ·exact T p z
         ·exact O p (Gy z)
        rw[P,<-BH,mO] at c;have h:=Q k _ g;generalize es++(B.nb 'm').take (0+j)=es2 at g c h;generalize j:AI (B.S k) es2=N at c h;refine{_,rfl,?_};rewrite [bV (us:=r.ts)];have j:=mY (W:=B.S k++N) (vs:=(B.S k++N).map λ_=>.bl true) (p:=r.ts.map Tr.pos) true (by rw[Ai]);simp! [j];by_cases g:r.ts.map Tr.pos∈B.S k++N
        ·rw[if_neg (by rw[aA g];decide)]
         rw[if_pos g,Cp] at c;exact c _ _ {_,_,rfl}
        ·rw[if_pos (by rw[ax g];rfl)]
         rw[if_neg g] at c;simp_all!;simp!;refine{_,_,vJ rfl,_,dn _,by rw[Ai];exact lt_size 'o',?_};rewrite [vI g];have j:N.length<=81:=by rw[A7] at h;omega
         simp! [Bc,aV];refine{_,bB (cP _) (by rw[Ai];omega),?_};simp!;exact c _ _ {_,_,by rw[BD (l₁:=N),<-BH];rfl}
     ·obtain⟨f,d,s⟩:=n
      subst s;have c:0+(rows.map Row.data).length=(B.nb 'm').length:=by rw[q,Ai,Ai,As]
      rw[c,CC];exact y _ _ {_,_,_,by rw[bw u.kind]}
  ·obtain⟨A,f,d,s⟩:=n
   subst s;rw[As,Ai,CC];have d:=Gd.few G m (l:=AI (B.S k) ((B.L k).flatMap B.nb)) (FH.mp (cN (Bf.nd k))).2.1 λp m=>by
    obtain⟨p',x,z⟩:=DK.mp (cM.mp m).1;exact M p' p (o k p' x) z
   have c:Fz [D.lst ((AI (B.S k) ((B.L k).flatMap B.nb)).map Ad)]=some (.lst ((B.L (k+1)).map Ad)):=by
    delta Fz;show (Cy ((AI (B.S k) ((B.L k).flatMap B.nb)).map Ad)).bind _=_;rw[eG,Eg,if_pos d.2];show _=some (D.lst ((B.srt (AI (B.S k) ((B.L k).flatMap B.nb))).map Ad));rw[C]
   have J:DM (.lst ((B.L (k+1)).map Ad))=some (.fl ((B.L (k+1)).map Ad)):=if_pos (aV _);simp! [hQ,c,J,Bc,bW];refine{_,bB (bE _) (by rw[cR];omega),?_};rewrite [iG];refine Y _ _ {k+1,_,_,_,_,rfl,λi U=>?_} ?_
   ·by_cases e:i=k
    ·subst e;exact E
    ·exact v i 'o'
   ·show 100-(Bb (B.F (k+1+1))).length<100-(Bb (B.F (k+1))).length
    rw[cR,cR];omega
def HN:List D->Ar Unit D:=BC 4 2 (ML Jl).1
def vO(d:AH A4 A3 b a)(f:BM A4 A3 a<=81)(q:∀N,(AZ A4 A3 b a).L N=[]->Q (.fl ((Bz Ts.stO ((AZ A4 A3 b a).S N)).map Ad)) ()) :
 Aa (HN [An A4 A3 b a,Ak a]) Q E:=by
 refine aF rfl 'z' ?_;delta ML;dsimp only;simp_all!;simp! [aQ];simp_all!;simp!;refine vN d f λN g h c=>?_
 have i:∀n,∀p∈(AZ A4 A3 b a).L n,Gd A4 A3 b a p:=λn=>gdL d
 have c:∀n,∀p∈(AZ A4 A3 b a).S n,Gd A4 A3 b a p:=λn=>gdS d
 generalize AZ A4 A3 b a=B at g h i c q;have e:=λn=>Gd.few d f (Bf.nd n) (c n)
 simp! [bW];have r:∀n,(B.F n).flatten.length<=81:=λn=>by
  cases n with
  | zero=>exact AF _
  | succ n=>rw[(Bf.all n).length_eq];exact(e n).1
 refine aN (λi Z o=>∃(l:Sl),Z=[Sl.bor (An A4 A3 b a),.bor (Ak a),.own (.lst ((B.F i).flatten.map Ad)),l]) 0 {_,rfl} (λi e Z o j h P n=>?_) λZ o h=>?_
 ·obtain⟨l,m⟩:=h
  have e:=(AQ.mp j).1;rw[cR] at e;rw[vL e] at j;cases j;subst m;rw[As] at n ⊢;refine{_,rfl,?_};have e:(B.F (i+1)).flatten=(B.F i).flatten++B.L i:=by rw[Bf.F_succ,List.flatten_append];simp
  have:=r (i+1);rw[e,A7] at this;simp! [Bc,aV];refine{_,if_pos {aV _,by rw[Ai,Ai];exact aY 'o'},?_};exact n _ _ {_,by rw[e,BD (l₁:=(B.F i).flatten)]}
 ·obtain⟨l,m⟩:=h
  subst m;rw[As,cR];have e:=vK g;have i:Fz [.lst ((B.F N).flatten.map Ad)]=some (.lst ((Bz Ts.stO (B.S N)).map Ad)):=by
   delta Fz;show (Cy ((B.F N).flatten.map Ad)).bind _=_;rw[eG,Eg,if_pos (Gd.few d f (e.nodup_iff.mpr (Bf.nd N)) λp h=>c N p (e.mem_iff.mp h)).2];rw[show Bz Ts.stO (B.F N).flatten=Bz Ts.stO (B.S N) from hX ((bR _).trans e) (eF _)]
  have c:DM (.lst ((Bz Ts.stO (B.S N)).map Ad))=some (.fl ((Bz Ts.stO (B.S N)).map Ad)):=if_pos (aV _);simp! [hQ,i,c,bE];exact{.inl (bE _),q N g}
end
def m6{w h:Int}:(AL w h p).Pairwise λa b=>Ts.lx a b=true:=by
 delta AL;rw[List.pairwise_flatMap];refine{λi _=>?_,List.pairwise_lt_range.imp λ{a b} c x e y d=>?_}
 ·unfold CU
  rw[List.pairwise_map];refine List.pairwise_lt_range.imp λ{a b} c=>?_
  exact Ts.lx_iff.mpr (.inr {rfl,by show p.2+(a:Int)<p.2+(b:Int);omega})
 ·unfold CU at e d
  obtain⟨j,_,rfl⟩:=BF.mp e;obtain⟨k,_,rfl⟩:=BF.mp d;exact Ts.lx_iff.mpr (.inl (by show p.1+(a:Int)<p.1+(b:Int);omega))
def fM(h:Ts.lx a b=true):a≠b:=λe=>by
 subst e;rw[Ts.lx_iff] at h;omega
def eC(h:Ts.lx a b=true)(d:Ts.lx b c=true):Ts.lx a c=true:=by
 rw[Ts.lx_iff] at *;omega
theorem iH:∀{c l:List Aj},l.Pairwise (λa b=>Ts.lx a b=true)->c.Pairwise (λa b=>Ts.lx a b=true)->(∀x∈l,x∈c)->l.Sublist c
 | [],l,_,_,h=>by
   cases l with
   | nil=>exact List.Sublist.refl _
   | cons a l=>exact absurd (h a 'd') 'd'
 | b::c,l,g,d,h=>by
   cases l with
   | nil=>exact List.nil_sublist _
   | cons a l=>
     obtain⟨i,j⟩:=DH.mp g;obtain⟨f,c⟩:=DH.mp d;rcases AE.mp (h a 'd') with e | e
     ·subst e
      refine List.Sublist.cons₂ _ (iH j c λx b=>?_);rcases AE.mp (h x (by simp[b])) with e | e
      ·exact absurd e.symm (fM (i x b))
      ·exact e
     ·refine List.Sublist.cons _ (iH g c λx b=>?_)
      rcases AE.mp (h x b) with d | d
      ·subst d
       rcases AE.mp b with c | c
       ·exact absurd c (fM (f a e))
       ·exact absurd rfl (fM (eC (f a e) (i _ c)))
      ·exact d
def vP{l:List Aj}(u:l.Pairwise Ts.lxle)(n:l.Nodup):l.Pairwise λa b=>Ts.lx a b=true:=by
 refine(u.and n).imp λ{a b} h=>?_
 obtain⟨d,c⟩:=h;refine Ts.lx_iff.mpr ?_;delta Ts.lxle at d;have:¬(a.1=b.1/\a.2=b.2):=λz=>c (Prod.ext z.1 z.2)
 omega
section
variable{A4 A3:Int}{sh:List Aj}{ts us:List Tr}
def AH.shut{c:Aj}(d:AH A4 A3 sh ts)(m:c∈AL A4 A3 (0,0))(g:c∉sh)(l:∀t∈ts,c∉t.cells):AH A4 A3 (BV (sh++[c])) ts:=by
 have e:sh.Pairwise λa b=>Ts.lx a b=true:=m6.sublist d.sub
 have i:(sh++[c]).Nodup:=by
  rw[FH];exact{e.imp λh=>fM h,'d',λa f b j e=>by rw[Bd.mp j] at e;rw[e] at f;exact g f}
 have b:∀x,x∈BV (sh++[c])↔x∈sh\/x=c:=λx=>by rw[(eD _).mem_iff,BN,Bd]
 refine{d.w1,d.w9,d.h1,d.h9,iH (vP (hF _) ((eD _).nodup_iff.mpr i)) m6 λx c=>?_,d.few,λt f=>?_,d.apart}
 ·rcases (b x).mp c with e | e
  ·exact d.sub.subset e
  ·rw[e];exact m
 ·have a:=d.tr t f
  refine{a.w1,a.h1,a.x0,a.xw,a.y0,a.yh,a.ways,a.st,λx c d=>?_};rcases (b x).mp d with e | e
  ·exact a.free x c e
  ·subst e;exact l t f c
end
def m7(d:D.immL a=true)(c:D.immL b=true)(h:a.length+b.length<=2000):BL (.lst a) (.lst b)=some (.lst (a++b)):=by
 have f:AU (λi j=>D.int (i+j)) (.lst a) (.lst b)=none:=rfl;have e:Hu (.lst a) (.lst b)=some (.lst (a++b)):=if_pos {d,c,BB (cH 'o')};delta BL;rw[f,e];rfl
def vQ:Bh false (.lst (l.map Af)) (.lst [])=some (.bl (decide (l=[]))):=by
 cases l with
 | nil=>rfl
 | cons a l=>
   have h:D.depL ((a::l).map Af)<=1:=cw (n:=1) (λa=>by simp[Af,D.dep,D.depL]) (a::l);delta Bh;rw[if_pos (by unfold D.dep;omega)];rw[show D.eqq _ (.lst [])=some false from rfl];rfl
def vR{a l:List Aj}{Q:List D->Dr->Prop}{E:AG->Dr->Prop}{x:Sl}{g:Dr}(b:l.length<=1000)(j:Q ((l.filter λc=>decide (c∉a)).map Af) g) :
 Aa (Dm Dr (gN 0) (tP Dr (tb (o2 (EJ true) (vr 0) (vr 1)))) (fP Dr (vr 0)) (l.map Af) [] [x,.bor (.lst (a.map Af))] g) Q E:=by
 refine cv (λn b Z e=>b=((l.take n).filter λc=>decide (c∉a)).map Af/\e=g/\∃x,Z=[x,.bor (.lst (a.map Af))]) 0 {rfl,rfl,_,rfl} (λi d b Z e f hI143=>?_) λb Z e hI142=>?_
 ·obtain⟨b,es,x,h⟩:=hI143
  rw[AK] at f;cases q:l[i]? with
  | none=>rw[q] at f;cases f
  | some c=>
    rw[q] at f;cases f;subst h es;rw[As] at b;refine{_,rfl,?_};have e:(l.take (i+1)).filter (λc=>decide (c∉a))=(l.take i).filter (λc=>decide (c∉a))++[c].filter λc=>decide (c∉a):=by
     rw[Cc,q,F1];rfl
    have f:EJ true (Af c) (.lst (a.map Af))=some (.bl (!decide (c∈a))):=(fG (neg:=true)).2;simp! [f];by_cases d:c∈a
    ·rw[aA d]
     simp!;refine{?_,_,rfl};rw[e,b];simp[d]
    ·rw[ax d]
     simp!;refine{az c,cH ?_,?_,_,rfl}
     ·rw[b,Ai]
      have:=EX (λc=>decide (c∉a)) (l.take i);rw[CO] at this;omega
     ·rw[e,b]
      simp[d]
 ·obtain⟨b,es,x,h⟩:=hI142
  rw[As,Ai,CC] at b;rw[b,es];exact j
def Jm:List D->Dr->Ar Dr D:=D5 7 3 (MP Fc CL).1
section
variable{A4 A3:Int}{sh:List Aj}{ts us vs:List Tr}
def vS{v:Dr}{Q:D->Dr->Prop}{E:AG->Dr->Prop}(f:AH A4 A3 sh ts)(hs:v.2<2 ^ 38)(U:∀o b,AH A4 A3 o ts->b.2<=v.2+20->Q (An A4 A3 o ts) b):Aa (Jm [An A4 A3 sh ts,Ak ts] v) Q E:=by
 have R:=f.few;have w1:=f.w1;have w9:=f.w9;have h1:=f.h1;have h9:=f.h9;have shl:sh.length<=81:=Az f.sub.length_le (bv f.w9 f.h9);have a:∀l:List Aj,D.immL (l.map Af)=true:=λl=>aq az l
 have N:∀l:List Tr,D.immL (l.map Tr.kind)=true:=λl=>aq bS l
 have T:D.immL (ts.map Tr.place)=true:=aq bd ts;have h0:AR (An A4 A3 sh ts) (.int 0)=some (.int A4):=rfl;have s:AR (An A4 A3 sh ts) (.int 1)=some (.int A3):=rfl;have h2:AR (An A4 A3 sh ts) (.int 2)=some (.tup (sh.map Af)):=mB;have W:AR (An A4 A3 sh ts) (.int 3)=some (.tup (ts.map Tr.kind)):=hall3';refine cZ rfl 'z' ?_;delta MP;dsimp only;have rh:BO 7 [An A4 A3 sh ts,Ak ts]=[Sl.hnd,.bor (An A4 A3 sh ts),.bor (Ak ts),.no,.no,.no,.no]:=rfl;simp_all!;have li:GL [.tup (sh.map Af)]=some (.lst (sh.map Af)):=if_pos (a sh);simp! [h2,li,a];simp_all!;have en:Ht [Ak ts]=some (GJ (ts.map Tr.place)):=if_pos T;simp! [en];refine aN (λi Z b=>∃(x4 x5:Sl),Z=[Sl.hnd,.bor (An A4 A3 sh ts),.bor (Ak ts),.own (.lst ((sh++(ts.take i).flatMap Tr.cells).map Af)),x4,x5,.no]/\(sh++(ts.take i).flatMap Tr.cells).length<=81+81*i/\b=v) 0 {_,_,by rw[show sh++(ts.take 0).flatMap Tr.cells=sh by simp],by simp;omega,rfl} (λi e Z b he O P pn=>?_) λZ b O=>?_
 ·obtain⟨x8,x9,M,A,es⟩:=O
  obtain⟨c,r,rfl⟩:=jP he;subst M es;rw[As] at A;rw[AK] at r;cases q:ts[i]? with
  | none=>rw[q] at r;cases r
  | some t=>
    rw[q] at r;cases r;have hi:=(AQ.mp q).1;have hi12:i<12:=A6 hi R;have n:=f.tr t (Bq q);have:=n.w1;have:=n.h1;have:=n.xw;have:=n.yh;have:=n.x0;have:=n.y0;have tl:t.cells.length<=81:=bv 'o' 'o';have Y:sh++((ts.take (i+1)).flatMap Tr.cells)=(sh++(ts.take i).flatMap Tr.cells)++t.cells:=by rw[Cc,q,Fh];simp
    refine{_,rfl,?_};simp! [W,cy q];refine cL 'o' 'o' 'o' 'o' ?_;have ec:AL t.w t.h (t.x,t.y)=t.cells:=rfl;rw[ec];have ad:=m7 (a (sh++(ts.take i).flatMap Tr.cells)) (a t.cells) (by simp only[Ai];omega);rw[<-BD,<-Y] at ad;have imn:=a (sh++(ts.take (i+1)).flatMap Tr.cells);simp! [a,ad];exact pn _ _ {_,_,by rw[As],by rw[As,Y,A7];omega,rfl}
 ·obtain⟨x8,x9,M,A,es⟩:=O
  subst M es;rw[As,jQ,Ai,CC] at A ⊢;obtain⟨g,j⟩:∃g,g=sh++ts.flatMap Tr.cells:={_,rfl};rw[<-j] at A ⊢;have t0:B3 [.int 0,.int 0]=some (Af (0,0)):=rfl;have t1:B3 [.int A4,.int A3,.str "none",.int 0]=some (kd A4 A3 "none" 0):=rfl;simp_all!;simp! [h0,s,t0,t1];refine cL 'o' 'o' 'o' 'o' ?_;simp! [a];have cl:=bv (p:=(0,0)) w9 h9;refine vR 'o' ?_;obtain⟨F,C⟩:∃F,F=(AL A4 A3 (0,0)).filter λc=>decide (c∉g):={_,rfl}
  rw[<-C];have Fl:F.length<=81:=by rw[C];exact Az (EX _ _) cl
  simp! [a];have G:Bh false (.lst (F.map Af)) (.lst [])=some (.bl (decide (F=[]))):=vQ;have ol:Cw [.lst (F.map Af)]=some (.int (F.length:Nat)):=by delta Cw;simp
  simp_all!;simp! [aQ,G];by_cases m:F=[]
  ·rw[aA m]
   simp!;refine{_,if_pos eN,?_};simp!;exact U sh b f 'o'
  ·rw[ax m]
   have hp:0<F.length:=List.length_pos_iff.mpr m;simp! [h0,s,h2,li,ol,a];refine aB 'o' 'o' 'o' λv3 J a3 b3 c3=>?_
   obtain⟨c,hc⟩:∃c,F[v3.toNat]?=some c:={_,AO 'o'};have ix:AR (.lst (F.map Af)) (.int v3)=some (Af c):=(eg (az c) a3 (by rw[AK,hc];rfl)).1;have u:=Bq hc;rw[C] at u;obtain⟨I,d⟩:=List.mem_filter.mp u;have d:=of_decide_eq_true d;rw[j,BN] at d;have B:=f.shut I (λz=>d (.inl z)) λt ht h=>d (.inr (DK.mpr ⟨t,ht,h⟩))
   have oc:DU [Af c]=some (.lst [Af c]):=bi (l:=[Af c]) (a [c]) 'd';have ca:BL (.lst (sh.map Af)) (.lst [Af c])=some (.lst ((sh++[c]).map Af)):=by
    rw[BD];exact m7 (a sh) (a [c]) (by simp;omega)
   have so:=m4 (l:=sh++[c]) (by simp;omega);have tu:Fv [.lst ((BV (sh++[c])).map Af)]=some (.tup ((BV (sh++[c])).map Af)):=if_pos (a _);have o4:B3 [.int A4,.int A3,.tup ((BV (sh++[c])).map Af),.tup (ts.map Tr.kind)]=some (An A4 A3 (BV (sh++[c])) ts):=cG (by simp only[D.immL,ag,ao,a,N,De]) 'd';simp! [ix,oc,ca,so,tu,W,o4,a];exact{.inl eN,U _ J B 'o'}
def BW.symm(a:BW ts us):BW us ts:={a.len.symm,λi u t c b=>by
 have z:=a.at_ i t u b c;exact{z.w.symm,z.h.symm,z.ways.symm,z.s.symm,λh=>(z.x (by rw[<-z.ways];exact h)).symm,λh=>(z.y (by rw[<-z.ways];exact h)).symm}}
def Gd.symm(a:BW ts us)(h:Gd A4 A3 sh ts p):Gd A4 A3 sh us p:=by
 obtain⟨vs,e,c,b⟩:=h;exact{vs,e,c,a.symm.trans b}
def m8(a:BW ts us)(h:Gd A4 A3 sh ts p):(AZ A4 A3 sh us).nb p=(AZ A4 A3 sh ts).nb p:=by
 obtain⟨vs,rfl,c,b⟩:=h;rw[cO b,cO (a.symm.trans b)]
def B7(A4 A3:Int)(sh:List Aj)(ts:List Tr)(p:List Aj):Prop:=∃i,p∈(AZ A4 A3 sh ts).L i
def B7.gd(a:AH A4 A3 sh ts)(h:B7 A4 A3 sh ts p):Gd A4 A3 sh ts p:=let ⟨i,h⟩:=h;gdL a p h
open H in
def B7.sub(d:AH A4 A3 sh ts)(a:BW ts us)(h:B7 A4 A3 sh ts 'm')(b:B7 A4 A3 sh us p):B7 A4 A3 sh ts p:=by
 obtain⟨j,b⟩:=b;refine Bf.good (G:=B7 A4 A3 sh ts) h (λp q b c=>?_) j p b;rw[m8 a (b.gd d)] at c;obtain⟨i,a⟩:=b;obtain⟨j,_,z⟩:=Bf.next a c;exact⟨j,z⟩
def vT(m:∀t∈ts,t.s≠1)(c:Gd A4 A3 sh ts p)(a:q∈(AZ A4 A3 sh ts).nb p):p∈(AZ A4 A3 sh ts).nb q:=by
 obtain⟨us,rfl,g,b⟩:=c;rw[cO b] at a;obtain⟨r,d,rfl⟩:=BF.mp a;obtain⟨j,f,n,c⟩:=mP d;have e:=b.trans (c.sibs f);have d:∀u∈us,u.s≠1:=λu d=>by
  obtain⟨i,h⟩:=DF d;have a:i<ts.length:=by rw[<-b.len];exact(AQ.mp h).1
  have l:=AO a;rw[(b.at_ i _ u l h).s];exact m _ (List.getElem_mem a)
 have a:r.n<r.ts.length:=by rw[c.len];exact j
 have:=vn (c.ok g) (AO a) a (vf f) n (c.weak g f d);rw[cO e];exact BF.mpr {_,this,rfl}
open H in
theorem B7.back(e:AH A4 A3 sh ts)(g:∀t∈ts,t.s≠1)(a:BW ts us)(b:AH A4 A3 sh us):∀(i:Nat) {p:List Aj},p∈(AZ A4 A3 sh ts).L i->B7 A4 A3 sh us p->B7 A4 A3 sh us (ts.map Tr.pos)
 | 0,p,h,r=>by rw[Bd.mp h] at r;exact r
 | i+1,p,h,r=>by
   obtain⟨⟨q,f,c⟩,_⟩:=Bf.new.mp h;have d:=gdL e q f;have z:=vT g d c;rw[<-m8 a (gd1 d c)] at z;obtain⟨j,r⟩:=r;obtain⟨k,_,z⟩:=Bf.next r z;exact B7.back e g a b i f ⟨k,z⟩
structure EM(A4 A3:Int)(sh:List Aj)(ts:List Tr)(l:List (List Aj)):Prop where
 mem:∀p,p∈l↔B7 A4 A3 sh ts p
 srt:∃S:List (List Aj),S.Nodup/\l=Bz Ts.stO S
 few:l.length<=81
 low:∀p∈l,p.length<=1000
def mem_S{B:Bf (List Aj)}{N:Nat}(h:B.L N=[]){p:List Aj}:p∈B.S N↔∃i,p∈B.L i:=by
 rw[Bf.mem_S];constructor
 ·rintro ⟨i,_,h⟩;exact⟨i,h⟩
 ·rintro ⟨i,z⟩
  by_cases q:i<=N
  ·exact⟨i,q,z⟩
  ·rw[Bf.nils 'o' h] at z;cases z
def m9(a:AH A4 A3 sh ts)(b:BM A4 A3 ts<=81){N:Nat}(h:(AZ A4 A3 sh ts).L N=[]):EM A4 A3 sh ts (Bz Ts.stO ((AZ A4 A3 sh ts).S N)):=by
 have m:∀p,p∈(show List (List Aj) from Bz Ts.stO ((AZ A4 A3 sh ts).S N))↔B7 A4 A3 sh ts p:=λp=>(bR (O:=Ts.stO) _).mem_iff.trans (mem_S h)
 refine{m,{_,Bf.nd N,rfl},?_,λp b=>?_}
 ·exact Az (BQ (bR (O:=Ts.stO) _).length_eq) (Gd.few a b (Bf.nd N) (gdS a)).1
 ·obtain⟨vs,rfl,_,c⟩:=((m p).mp b).gd a
  have:=c.len;have:=a.few;rw[Ai];omega
def EM.eq(a:EM A4 A3 sh ts l)(b:EM A4 A3 sh us m)(h:∀p,B7 A4 A3 sh us p↔B7 A4 A3 sh ts p):m=l:=by
 obtain⟨S,g,c⟩:=a.srt;obtain⟨T,f,d⟩:=b.srt;have e:∀p,p∈S↔B7 A4 A3 sh ts p:=λp=>by rw[<-a.mem,c];exact((bR (O:=Ts.stO) S).mem_iff).symm
 have a:∀p,p∈T↔B7 A4 A3 sh us p:=λp=>by rw[<-b.mem,d];exact((bR (O:=Ts.stO) T).mem_iff).symm
 rw[c];rw[d];exact hX ((bR _).trans ((List.perm_ext_iff_of_nodup f g).mpr λp=>(a p).trans ((h p).trans (e p).symm))) (eF _)
end
def cS{i:Int}(b:-5000000000000000<=i)(a:i<=5000000000000000):aK (.int i)=true:=by
 show decide (i.natAbs.log2<1920)=true;refine aA ?_;by_cases h:i.natAbs=0
 ·rw[h];decide
 ·exact A6 ((Nat.log2_lt h).mpr (show i.natAbs<2 ^ 60 by omega)) 'z'
theorem fN{α:Type}{f:α->D}:∀{l:List α},(∀a∈l,aK (f a)=true)->bx (l.map f)=true
 | [],_=>rfl
 | a::l,h=>by
   show (aK (f a)&&bx (l.map f))=true;rw[h a 'd',fN λb c=>h b (by simp[c])];rfl
theorem fO{α:Type}{f:α->D}{k:Nat}:∀{l:List α},(∀a∈l,szD (f a)+2<=k)->bp (l.map f)<=k*l.length
 | [],_=>AF _
 | a::l,h=>by
   show szD (f a)+2+bp (l.map f)<=k*(l.length+1);have b:=h a 'd';have c:=fO (l:=l) λb a=>h b (by simp[a])
   rw[Nat.mul_succ];omega
theorem fQ{α:Type}{f:α->D}{k:Nat}:∀{l:List α},(∀a∈l,dpD (f a)<=k)->bz (l.map f)<=k
 | [],_=>AF _
 | a::l,h=>Nat.max_le.mpr {h a 'd',fQ (l:=l) λb a=>h b (by simp[a])}
def nc(a:0<=c.1)(b:c.1<=9)(a:0<=c.2)(b:c.2<=9):aK (Af c)=true:=by
 show (aK (.int c.1)&&(aK (.int c.2)&&true))=true;rw[cS 'o' 'o',cS 'o' 'o'];rfl
def ng{e f:Int}(b:AH e f g d)(c:t∈d):aK t.kind=true/\szD t.kind+2<=6000:=by
 have a:=b.tr t c;have:=a.w1;have:=a.h1;have:=a.xw;have:=a.yh;have:=a.x0;have:=a.y0;have:=b.w9;have:=b.h9;have c:=a.st;have b:aK (.int t.s)=true:=by rcases c with r | r | r<;>rw[r]<;>exact cS 'z' 'z'
 constructor
 ·show (aK (.int t.w)&&(aK (.int t.h)&&(true&&(aK (.int t.s)&&true))))=true
  rw[cS (i:=t.w) 'o' 'o',cS (i:=t.h) 'o' 'o',b];rfl
 ·have c:(reprText t.ways).length<=10:=by
   rcases a.ways with r | r | r | r<;>rw[r]<;>decide +kernel
  show 1921+2+(1921+2+((reprText t.ways).length+2+(1921+2+0)))+3+2<=6000;omega
def vU{f h:Int}{d:List Aj}{a:List Tr}(b:AH f h d a):Fb [An f h d a,Ak a]:=by
 have e:d.length<=81:=Az b.sub.length_le (bv b.w9 b.h9);have e:=b.few;have g:=b.w1;have e:=b.w9;have g:=b.h1;have e:=b.h9;have l:∀c∈d,aK (Af c)=true:=λc n=>by
  obtain⟨m,e,j,g⟩:=ce.mp (b.sub.subset n);have m:0<=c.1:=m;have e:c.1<0+f:=e;have j:0<=c.2:=j;have g:c.2<0+h:=g;exact nc 'o' 'o' 'o' 'o'
 have j:∀t∈a,aK t.place=true:=λt g=>by
  have e:=b.tr t g;have:=e.w1;have:=e.h1;have:=e.xw;have:=e.yh;have:=e.x0;have:=e.y0;exact nc (c:=(t.x,t.y)) (by show 0<=t.x;omega) (by show t.x<=9;omega) (by show 0<=t.y;omega) (by show t.y<=9;omega)
 refine{?_,?_,?_,?_}
 ·simp only[An,Ak,D.immL,ao,ag,aq az,aq bS,aq bd,De]
 ·show ((aK (.int f)&&(aK (.int h)&&(bx (d.map Af)&&(bx (a.map Tr.kind)&&true))))&&(bx (a.map Tr.place)&&true))=true
  rw[cS (i:=f) 'o' 'o',cS (i:=h) 'o' 'o',fN l,fN j,fN λt g=>(ng b g).1];rfl
 ·have j:bz (d.map Af)<=1:=fQ λc _=>by show max 0 (max 0 0)+1<=1;decide
  have e:bz (a.map Tr.place)<=1:=fQ λc _=>by show max 0 (max 0 0)+1<=1;decide
  have l:bz (a.map Tr.kind)<=1:=fQ λc _=>by show max 0 (max 0 (max 0 (max 0 0)))+1<=1;decide
  show max (max 0 (max 0 (max (bz (d.map Af)+1) (max (bz (a.map Tr.kind)+1) 0)))+1) (max (bz (a.map Tr.place)+1) 0)<60;omega
 ·have j:bp (d.map Af)<=4000*d.length:=fO λc _=>by show 1921+2+(1921+2+0)+3+2<=4000;decide
  have e:bp (a.map Tr.place)<=4000*a.length:=fO λc _=>by show 1921+2+(1921+2+0)+3+2<=4000;decide
  have l:bp (a.map Tr.kind)<=6000*a.length:=fO λt g=>(ng b g).2
  have e:sizeLine=16777216:=by decide
  show (1921+2+(1921+2+(bp (d.map Af)+3+2+(bp (a.map Tr.kind)+3+2+0)))+3)+2+(bp (a.map Tr.place)+3+2+0)+3<=sizeLine;omega
def vV{S:Type}{i:Nat}{Z:Ae}{a:S}{Q:Fl->S->Prop}{E:AG->S->Prop}:Aa (Hx S i Z a) Q E↔∃l,Bc Z i=some l/\Q (.nx (Z.set i (.own (.lst l.reverse)))) a:=by
 delta Hx;cases h:Bc Z i with
 | none=>exact{λq=>q.elim,λ⟨l,e,_⟩=>by cases e}
 | some l=>exact{λq=>⟨l,rfl,q⟩,λ⟨m,e,q⟩=>by cases e;exact q}
section
variable{A4 A3:Int}{sh:List Aj}{ts:List Tr}
def nh(h:p.length<=1000):(Ad p).lw=true:=kJ (kI (f:=Dp) (λc=>uA c) p) (by rw[Ai];exact h)
def vW{l:List (List Aj)}(h:∀p∈l,p.length<=1000)(e:l.length<=1000):(D.lst (l.map Ad)).lw=true/\(D.lst (l.map Ad)).dep<=3/\(D.fl (l.map Ad)).lw=true/\(D.fl (l.map Ad)).dep<=3/\D.eqq (.fl (l.map Ad)) (.lst (l.map Ad))=some true:=by
 have a:D.lwL (l.map Ad)=true:=fo.mpr λd b=>by
  obtain⟨p,c,rfl⟩:=BF.mp b;exact nh (h p c)
 have b:decide ((l.map Ad).length<=sizeLine)=true:=aA (aY (by rw[Ai];exact e));refine{by show (_&&_)=true;rw[a,b];rfl,Fi (cQ l),by show (_&&_)=true;rw[a,b];rfl,Fi (cQ l),?_};show (if (l.map Ad).length=(l.map Ad).length then D.eqL (l.map Ad) (l.map Ad) else some false)=some true;rw[if_pos rfl];exact ee a
def ni(b:AH A4 A3 sh ts)(a:BM A4 A3 ts<=81)(c:∀l,EM A4 A3 sh ts l->Q (.lst (l.map Ad)) ()):Aa (HM [An A4 A3 sh ts,Ak ts]) Q E:=
 vE b a λ_ h _=>c _ (m9 b a h)
def iI(b:AH A4 A3 sh ts)(a:BM A4 A3 ts<=81)(c:∀l,EM A4 A3 sh ts l->Q (.fl (l.map Ad)) ()):Aa (HN [An A4 A3 sh ts,Ak ts]) Q E:=
 vO b a λ_ h=>c _ (m9 b a h)
def EM.same(a:EM A4 A3 sh ts l)(b:EM A4 A3 sh ts m):m=l:=a.eq b λ_=>Iff.rfl
def nj{l:List (List Aj)}{Q:D->Unit->Prop}{E:AG->Unit->Prop}(a:EM A4 A3 sh ts l)(h:Q (.bl true) ()):Aa (EU 5 [.lst (l.map Ad),.fl (l.map Ad)]) Q E:=by
 have q:=vW (l:=l) a.low (by have:=a.few;omega);have c:D.lwL (l.map Ad)=true:=fo.mpr λd b=>by
  obtain⟨p,e,rfl⟩:=BF.mp b;exact nh (a.low p e)
 exact fH rfl rfl rfl rfl rfl rfl rfl rfl rfl (λx b=>mr 4 (Cb (kG b) (Cb (cQ l) 'z')) (fo.mp c x b)) (aY (by rw[Ai];have:=a.few;omega)) h
theorem fR{α:Type}[DecidableEq α]{f:α->D}(h:∀a b,D.eqq (f a) (f b)=some (decide (a=b))):∀l m:List α,D.eqL (l.map f) (m.map f)=some (decide (l=m))
 | [],[]=>by simp[D.eqL]
 | [],_::_=>by simp[D.eqL]
 | _::_,[]=>by simp[D.eqL]
 | a::l,b::m=>by
   show (D.eqq (f a) (f b)).bind (λx=>(D.eqL (l.map f) (m.map f)).map λy=>x&&y)=_;rw[h,fR h l m,Eg,BA,Option.some.injEq,FK];simp
theorem nk{α:Type}[DecidableEq α]{f:α->D}(h:∀a b,D.eqq (f a) (f b)=some (decide (a=b)))(p:α):∀l:List α,By (f p) (l.map f)=some (decide (p∈l))
 | []=>by simp[By]
 | a::l=>by
   show ((D.eqq (f a) (f p)).bind λb=>(By (f p) (l.map f)).map λx=>b||x)=_;rw[h,nk h p l,Eg,BA,Option.some.injEq];by_cases e:a=p
   ·subst e;simp
   ·have e':¬p=a:=λz=>e z.symm
    rw[ax e,Bool.false_or];exact decide_eq_decide.mpr {λz=>Ed _ z,λz=>(AE.mp z).resolve_left e'}
def vX(a b:Aj):D.eqq (Af a) (Af b)=some (decide (a=b)):=by
 have:=fR (f:=D.int) (λi j=>by rw[eh];rfl) [a.1,a.2] [b.1,b.2];show D.eqL ([a.1,a.2].map D.int) ([b.1,b.2].map D.int)=_;rw[this,Option.some.injEq,FK];simp[Prod.ext_iff]
def nq(p q:List Aj):D.eqq (Ad p) (Ad q)=some (decide (p=q)):=fR vX p q
open H in
def vY(l m:List (List Aj)):∃b,Bh true (.fl (l.map Ad)) (.fl (m.map Ad))=some (.bl b)/\(l=m->b=false):=by
 have a:D.dep (.fl (l.map Ad))<=30:=Az (Fi (cQ l)) 'z';delta Bh;rw[if_pos a];show ∃b,((if (l.map Ad).length=(m.map Ad).length then D.eqL (l.map Ad) (m.map Ad) else some false).map λx=>D.bl (!x))=some (.bl b)/\_;rw[fR nq];split
 ·exact{_,rfl,λe=>by simp[e]}
 ·rename_i h
  exact{_,rfl,λe=>absurd (by rw[e]) h}
instance hlD(A4 A3:Int)(ts:List Tr)(e:List Aj×List (List Aj)):D:=.tup [An A4 A3 e.1 ts,.fl (e.2.map Ad)]
def nr(e:List Aj×List (List Aj)):(hlD A4 A3 ts e).imm=true:=by
 show D.imm (.tup [An A4 A3 e.1 ts,.fl (e.2.map Ad)])=true;simp only[ao,D.immL,eN,bE,De]
def vZ(h:us.map Tr.kind=ts.map Tr.kind):BM A4 A3 us=BM A4 A3 ts:=by
 have e:∀ts:List Tr,BM A4 A3 ts=(ts.map Tr.kind).foldr (λd r=>(match d with | .tup [.int w,.int h,.str a,_]=>CN A4 A3 w h a | _=>1)*r) 1:=λts=>by
  delta BM;rw[List.foldr_map];rfl
 rw[e,e,h]
end
def v0(ns:List Int)(hn:ns.length<=63):Aa ((MX CL IY Jk Jm HN HM (EU 5)).1 (CH MZ.length) (Fa ns,0)) (λfl _=>fl=.rt (.bl true)) λ_ _=>False:=by
 delta MX;dsimp only;have rh:CH MZ.length=[Sl.no,.hnd,.no,.no,.no,.no,.no,.no,.no,.no,.no,.no,.no,.no]:=rfl;rw[rh,ar];obtain⟨M,hst0,h00⟩:∃M:Dr,(Fa ns,(0:Int))=M/\M.2=0:={_,rfl,rfl};rw[hst0];simp!;refine aB 'z' 'z' 'o' λv1 st1 a1 b1 c1=>?_
 simp! [Np,Nq,Nr];simp_all!;simp! [GM,fm,gM];generalize (v1 == 0)=B0;have tk2:∃m:Int,(if B0=true then D.int 20 else D.int 60)=.int m/\1<=m/\m<=60:=by
  split
  ·exact{_,rfl,'z','z'}
  ·exact{_,rfl,'z','z'}
 obtain⟨m,em,m0,m1⟩:=tk2;rw[em];refine uL 'o' m0 'o' λc f g a st2 u G t2=>?_
 have T:(An c f g a).flat=false:=rfl;have sf:(Ak a).flat=false:=rfl;simp! [T,sf];refine cK (λZ h=>∃(c f:Int) (g:List Aj) (a:List Tr),Z=[Sl.no,.hnd,.bor (.bl B0),.bor (An c f g a),.bor (Ak a),.no,.no,.no,.no,.no,.no,.no,.no,.no]/\AH c f g a/\BM c f a<=81/\h.2<=600) (λP pn=>?_) λZ h hI=>?_
 ·simp!
  refine aB 'z' 'z' 'o' λv3 st3 a3 b3 c3=>?_
  simp! [Np,Nq,Nr];split
  ·refine vH 'o' λg t st4 u G t4=>?_
   have T:(An 9 9 g [t]).flat=false:=rfl;have sf:(Ak [t]).flat=false:=rfl;simp! [T,sf];exact pn _ _ {_,_,_,_,rfl,u,G,'o'}
  ·exact pn _ _ {_,_,_,_,rfl,u,'o','o'}
 ·clear T sf u G t2
  clear c f g a;obtain⟨c,f,g,a,I,u,G,t2⟩:=hI;subst I;simp_all!;simp!;refine vS u 'o' λy st5 ho' t5=>?_
  have T:∀g,(An c f g a).flat=false:=λ_=>rfl
  have Y:∀l:List (List Aj),(D.fl (l.map Ad)).flat=false:=λ_=>rfl
  simp! [T];simp_all!;simp!;refine iI u G λo Q=>?_
  refine iI ho' G λll al=>?_
  have t2u:∀l m:List (List Aj),B3 [.fl (l.map Ad),.fl (m.map Ad)]=some (.tup [.fl (l.map Ad),.fl (m.map Ad)]):=λl m=>aO (bE l) (bE m)
  simp! [t2u,Y];simp_all!;have hs:=vU u;have oL:Hy [An c f g a,Ak a]=some (.fl [An c f g a,Ak a]):=if_pos {hs.1,aY 'd'};have os:FS [.fl [An c f g a,Ak a]]=some (.str (aG (.fl [An c f g a,Ak a])).shown):=if_pos hs;generalize (aG (.fl [An c f g a,Ak a])).shown=text at os;simp! [oL,os];simp_all!;obtain⟨es,N⟩:∃es,es=[(g,o),(y,ll),(g,o)]:={_,rfl};have okE:∀e∈es,AH c f e.1 a/\EM c f e.1 a e.2:=λe v=>by
   rw[N] at v;rcases AE.mp v with rfl | v
   ·exact⟨u,Q⟩
   ·rcases AE.mp v with rfl | v
    ·exact⟨ho',al⟩
    ·rw[Bd.mp v];exact⟨u,Q⟩
  have tH:∀s l,B3 [An c f s a,.fl (l.map Ad)]=some (hlD c f a (s,l)):=λs l=>aO eN (bE l)
  have oL3:DU [hlD c f a (g,o),hlD c f a (y,ll),hlD c f a (g,o)]=some (.lst (es.map (hlD c f a))):=by
   rw[N];exact bi (l:=[(g,o),(y,ll),(g,o)].map (hlD c f a)) (aq nr _) 'd'
  clear N;simp! [tH,oL3,aq nr];refine aN (λi Z h=>∃x9 C B,Z=[Sl.no,.hnd,.bor (.bl B0),.bor (An c f g a),.bor (Ak a),.bor (An c f y a),.bor (.fl (o.map Ad)),.bor (.fl (ll.map Ad)),.bor (.str text),x9,C,B,.no,.no]/\h=st5) 0 {_,_,_,rfl,rfl} (λi e Z h v hI P pn=>?_) λZ h hI=>?_
  ·obtain⟨x9,C,B,I,J⟩:=hI
   subst I J;rw[AK] at v;cases q:es[i]? with
   | none=>rw[q] at v;cases v
   | some e=>
     rw[q] at v;cases v;obtain⟨s,l⟩:=e;obtain⟨ho2,a2⟩:=okE _ (Bq q);refine{_,rfl,?_};simp_all!;simp!;refine ni ho2 G λm am=>?_
     have em:=a2.same am;subst em;simp! [aV];simp_all!;simp!;refine nj a2 ?_;simp! [D.bool?];simp_all!;have few:m.length<=81:=a2.few;have sim:(Ak a).imm=true:=by rw[bV];exact cP _
     simp! [vV,Bc,aV];exact{_,if_pos (by rw[<-List.map_reverse];exact aV _),_,bB sim (by rw[List.length_reverse,Ai];omega),pn _ _ {_,_,_,rfl,rfl}}
  ·obtain⟨x9,C,B,I,J⟩:=hI
   subst I J;have l0:B7 c f g a (a.map Tr.pos):={0,Bd.mpr rfl};have few:=Q.few;have dpos:0<o.length:=List.length_pos_of_mem ((Q.mem _).mpr l0);have ol:∀l:List (List Aj),II [.fl (l.map Ad)]=some (.int l.length):=λl=>by
    show some (D.int (l.map Ad).length)=_;rw[Ai]
   simp_all!;simp! [ol];refine aB 'o' 'o' 'o' λv6 st6 a6 b6 c6=>?_
   obtain⟨p,hpv⟩:∃p,o[v6.toNat]?=some p:={_,AO 'o'};have rp:=(Q.mem p).mp (Bq hpv);have ix:IH (.fl (o.map Ad)) (.int v6)=some (Ad p):=by
    show im (BG (o.map Ad) v6)=_;obtain⟨d,e,e2⟩:=gQ (l:=o.map Ad) a6 (by rw[Ai];omega);rw[AK,hpv] at e2;cases e2;rw[e];exact if_pos (cP _)
   have pf:(Ad p).flat=false:=rfl;simp! [ix,pf];obtain⟨us,rfl,A,r⟩:=rp.gd u;have hpu:BM c f us<=81:=by rw[vZ r.kind];exact G
   simp_all!;simp!;rewrite [<-bV (us:=us),<-bw r.kind];refine iI A hpu λrl W=>?_
   simp! [Y];simp_all!;simp!;refine ni A hpu λm am=>?_
   have em:=W.same am;subst em;simp!;refine nj W ?_;simp! [D.bool?,D.fl?];refine cc (λ_=>.bl true) (λZ=>∃x,Z=[x,.bor (.fl (o.map Ad))]) {_,rfl} (λd O Z hI144=>?_) (aY (by rw[Ai];have:=W.few;omega)) ?_
   ·obtain⟨x,e⟩:=hI144
    subst e;obtain⟨q,hq,rfl⟩:=BF.mp O;have hqd:q∈o:=(Q.mem q).mpr (B7.sub u r rp ((W.mem q).mp hq));have i1:JZ (Ad q) (.fl (o.map Ad))=some (.bl true):=by
     show (if D.depL (o.map Ad)<=30 then (By (Ad q) (o.map Ad)).map D.bl else none)=_;rw[if_pos (Az (cQ o) 'z'),nk nq];simp only[hqd,decide_true];rfl
    refine{_,rfl,{_,rfl},⟨rfl,rfl⟩,?_};simp! [i1]
   ·simp! [E9,kH,BA]
    rw[show ((m.map Ad).map λ_=>true).all id=true by simp];simp!;simp_all!;obtain⟨b,eb,hb⟩:=vY m o;simp! [eb,D.bool?];have fin:P_ (Fl.nx [Sl.no,.hnd,.bor (.bl B0),.bor (An c f g us),.bor (Ak a),.bor (An c f y a),.bor (.fl (o.map Ad)),.bor (.fl (ll.map Ad)),.bor (.str text),x9,C,B,.bor (Ak us),.bor (.fl (m.map Ad))]) st6:=by
     simp!;rewrite [bw r.kind];have e9:Bh false (.str text) (.str text)=some (.bl true):=by simp[eu]
     simp! [oL,os,e9]
    by_cases hw:∀t∈a,t.s≠1
    ·obtain⟨i,hi⟩:=rp
     have bk:=B7.back u hw r A i hi {0,Bd.mpr rfl};have e:m=o:=Q.eq W λp=>{B7.sub u r ⟨i,hi⟩,B7.sub A r.symm bk}
     rw[hb e,if_neg 'z'];exact fin
    ·cases b with
     | false=>rw[if_neg 'z'];exact fin
     | true=>
       rw[if_pos rfl];have k3:AR (An c f g us) (.int 3)=some (.tup (us.map Tr.kind)):=hall3';simp! [k3];refine cv (λn R Z h=>R=((us.take n).filter λt=>t.s == 1).map Tr.kind/\h=st6/\∃x,Z=[x]) 0 {rfl,rfl,_,rfl} (λi d R Z h O hI146=>?_) λR Z h hI145=>?_
       ·obtain⟨U,es,x,I⟩:=hI146
        rw[AK] at O;cases q:us[i]? with
        | none=>rw[q] at O;cases O
        | some t=>
          rw[q] at O;cases O;subst I es;rw[As] at U;have few:=A.few;have ht:(us.take (i+1)).filter (λt=>t.s == 1)=(us.take i).filter (λt=>t.s == 1)++[t].filter λt=>t.s == 1:=by
           rw[Cc,q,F1];rfl
          have i3:AR t.kind (.int 3)=some (.int t.s):=rfl;refine{_,rfl,?_};simp! [i3,cx];by_cases E:t.s=1
          ·rw[if_pos (by simpa using E)]
           refine{bS t,cH ?_,?_,_,rfl}
           ·rw[U,Ai]
            have:=EX (λt:Tr=>t.s == 1) (us.take i);rw[CO] at this;omega
           ·rw[ht,U]
            simp[E]
          ·rw[if_neg (by simpa using E)]
           refine{?_,_,rfl};rw[ht,U];simp[E]
       ·obtain⟨U,es,x,I⟩:=hI145
        subst U;rw[As,Ai,CC];have ne:us.filter (λt=>t.s == 1)≠[]:=λz=>hw λt ht h1=>by
         obtain⟨j,hj⟩:=DF ht;have hl:j<us.length:=by rw[r.len];exact(AQ.mp hj).1
         have hu:=AO hl;have hs:=(r.at_ j t _ hj hu).s;have:us[j]∈us.filter λt=>t.s == 1:=List.mem_filter.mpr {List.getElem_mem hl,by rw[hs,h1];rfl}
         rw[z] at this;cases this
        have dk:D.depL ((us.filter λt=>t.s == 1).map Tr.kind)<=29:=Az (cw (n:=1) (λt=>by simp[Tr.kind,kd,D.dep,D.depL]) _) 'z';have en:=iB (neg:=false) dk;have mn:¬(us.filter λt=>t.s == 1).map Tr.kind=[]:=λz=>ne (List.map_eq_nil_iff.mp z)
        simp?! [aQ,en,ax mn];subst es;exact fin
end K20
section
set_option maxHeartbeats 0
namespace K20
open L2
def v4(s:Stmt):dA s=FN s:=by cases s<;>rfl
def v5(s:Stmt):dB s=B9 s:=by cases s<;>rfl
def v7(s:Stmt):dS s=AM s:=by cases s<;>rfl
def FnAt.to{K:FG}{x:Str}{i:Nat}(h:FnAt K x i):At K x (Em i):=by
 obtain⟨f,g,a,e,c,kV,d,j,b,g,a,l,c,k⟩:=h;rw[v4,v5,v7] at l;exact{f,_,a,pC (st:=Em i) l c k}
def all_mk{l:PySem.W.OpenLaw}{w:World}{K:FG}{h:Heap}{i:Str->Option Value}{a:Addr}(X:K.In h)(G:h.Ns mainGlobals i)(c:i "law" = some (.ref a))(F:Facts K) :
 ∃O:FuncData,(∀(s:Shared) (v:Value),BindsTo s O {[v],[]} [("_law_script",v)])/\∀b:Heap,K.In b->b.Ns mainGlobals i->Cs l.prog w K i b CX0 10 a O ["_law_script"] (spLaw K):=by
 cases F with
 | mk d Y h_2 h_3 h_4 h_5 h_6 Z h_8 h_9 r T E A n J P R N B j I h o C U M Q m y u g a M9 K9 M4 p N0 M5 N1 M6 J0 N2 N3 q N5 K0 L9 L0 N6 N7 N8 K2 N9 M7 L1 M8 M0 L3 L4 L5 L6 f G9=>
 obtain⟨e,x,z,Fl⟩:=a.to;obtain⟨_,_,kV,dc,pm,an,cd,ct,_,rfl,_,_⟩:=Fl.ex;have e:=c.symm.trans (mg_of X G z);cases e;have a:=λ{x:Str} (z:nsIn K mainGlobals x=some none)=>mg_none_of X G z
 have c:Bn i:={a M9,a K9,a M4,a p,a N0,a M5,a N1,a M6,a J0,a N2,a N3,a q,a N5,a K0,a L9,a L0,a N6,a N7,a N8,a K2,a N9};have cs:Cst K i:={trivial,{_,mg_of X G M7},{_,mg_of X G L1},{_,mg_of X G M8},{_,mg_of X G M0,rR (p0:=(1,0)) (p1:=(0,1)) (p2:=(-1,0)) (p3:=(0,-1)) L3 L4 L5 L6 f},{_,mg_of X G G9}};refine{fnOf "law" "law" (FN MY) (B9 MY) (AM MY) .none kV dc pm an cd ct,λs v=>.of_eq rfl,λb _ _=>?_};have CB:Cv l.prog w K i b 1 "_law_begin" ["_law_script"] (Iz K):=ig _ _ _ X G d.to λf O F=>uw F c
 have d:=λp q=>ig (sp:=spS (WdS p q) K CL) l.prog w b X G Y.to λf O F=>ux F c.len c.divmod
 have Y:=aM l.prog w b X G h_2.to K6 (K3.2 _ _ _ _ _ c cs 0 );have a:=aM l.prog w b X G h_3.to Lb (K7.2 _ _ _ _ _ c cs 0 );have v:=aM l.prog w b X G h_4.to Lf ((Lc GX).2 _ _ _ _ _ c cs 1 a.up);have e:=aM l.prog w b X G h_5.to Lj (Lg.2 _ _ _ _ _ c cs 0 );have x:=aM l.prog w b X G h_6.to Ln (Lk.2 _ _ _ _ _ c cs 0 );have z:=aM l.prog w b X G Z.to Lr ((Lo Jb GX GZ Jc).2 _ _ _ _ _ c cs 1 e.up a.up x.up Y.up);have e:=aM l.prog w b X G h_8.to Lw ((Ls Jd).2 _ _ _ _ _ c cs 2 z.up);have Y:=aM l.prog w b X G h_9.to LA ((Lx G4 GY).2 _ _ _ _ _ c cs 3 e.up v.up);have a:=aM l.prog w b X G r.to LF ((LB GZ).2 _ _ _ _ _ c cs 1 x.up);have r:=aM l.prog w b X G T.to LJ ((LG G4 Jf Je).2 _ _ _ _ _ c cs 4 e.up a.up Y.up);have x:=aM l.prog w b X G E.to LN ((LK GY Jg).2 _ _ _ _ _ c cs 5 v.up r.up);have e:=λa=>dg (W:=C2 K a) l.prog w b X G A.to l5 (IP.2 _ _ _ _ _ a c cs 0 )
 have v:=λa=>uv (W:=C2 K a) l.prog w b X G n.to l6 ((IR Jh Ji).2 _ _ _ _ _ a c cs 6 x.up (e a).up)
 have n:=aM l.prog w b X G J.to l7 ((IT lbF).2 _ _ _ _ _ c cs 7 (λa=>(v a).up));have r:=aM l.prog w b X G P.to LR ((LO Jj).2 _ _ _ _ _ c cs 8 n.up);have a:=aM l.prog w b X G R.to LW (LS.2 _ _ _ _ _ c cs 0 );have v:=aM l.prog w b X G N.to L7 (LX.2 _ _ _ _ _ c cs 0 );have n:=λp q=>dg l.prog w b X G B.to Mc ((L8 CL).2 _ _ _ _ _ p q c cs 1 (d p q).up)
 have e:=λp q=>dg l.prog w b X G j.to Mi ((Md CL).2 _ _ _ _ _ p q c cs 1 (d p q).up)
 have j:=λp q=>dg l.prog w b X G I.to Mm ((Mj IV Fc CL IW IU).2 _ _ _ _ _ p q c cs 2 (n p q).up a.up (d p q).up (e p q).up v.up)
 have e:=aM l.prog w b X G h.to Mq (Mn.2 _ _ _ _ _ c cs 0 );have h:=aM l.prog w b X G o.to Mu (Mr.2 _ _ _ _ _ c cs 0 );have n:=aM l.prog w b X G C.to My ((Mv Fc GV IZ).2 _ _ _ _ _ c cs 1 a.up e.up h.up);have o:=aM l.prog w b X G U.to MC ((Mz I0 GV).2 _ _ _ _ _ c cs 2 n.up e.up);have h:=aM l.prog w b X G M.to MG ((MD Gp).2 _ _ _ _ _ c cs 3 o.up);have e:=aM l.prog w b X G Q.to MK ((MH HK).2 _ _ _ _ _ c cs 4 h.up);have o:=aM l.prog w b X G m.to MO ((ML Jl).2 _ _ _ _ _ c cs 5 e.up);have m:=λp q=>dg l.prog w b X G y.to MS ((MP Fc CL).2 _ _ _ _ _ p q c cs 1 a.up (d p q).up)
 have h:=λp q=>dg l.prog w b X G u.to MW ((MT CL Fc).2 _ _ _ _ _ p q c cs 1 (d p q).up a.up)
 have e:∀n:Nat,Cv l.prog w K i b n "_law_same" ["_law_found","_law_due"] (sp0 K (EU n)):=λn=>by
  induction n with
  | zero=>exact ig _ _ _ X G g.to λf O F=>q9
  | succ n a=>exact aM _ _ _ X G g.to uy ((Gn (EU n)).2 _ _ _ _ _ c cs n a)
 have e:=e 5;exact uz Fl (k:=9) CB.up (λp q b A a s H E f=>(MX CL IY Jk Jm HN HM (EU 5)).2 _ _ _ _ _ p q c cs 9 (d p q).up (j p q).up (h p q).up (m p q).up o.up r.up e.up _ b A a s H E f) v0
end K20
open PySem PySem.W PyProof.Rows
theorem PySem.Challenge.cw_slidehall_k20_come_to_holds : PySem.Challenge.rw_slidehall_k20_come_to.Holds :=
 K20.early λq loose XP YP d K hd hn hY facts =>
 L2.walk_of (l:=PySem.Challenge.rw_slidehall_k20_come_to) (n:=63) (k:=10) (x:="_law_script") (CX:=λ_=>L2.CX0) (sp:=λw=>L2.spLaw (K w.params)) rfl 'z' hd {rfl,'z','z',rfl} hY (λw mg fa h KX G hmg=>K20.all_mk KX G (hn▸hmg) (facts w.params)) (λ_ _ a ns hl _ hS=>{a,ns,rfl,hS,hl,λ_=>rfl}) λ_ _ _ _ _ z=>z
end
end

