import PyProof.Rows.All
import Wide.All
import OpenK.AllK
import Wide.FinOn
import KE.KDictSum
import KE.KIsAll
import KE.KListMore
import KE.KRevIter
import KE.KSortTup
import Lean
import OpenK.KCls
import OpenK.KOwn
import OpenK.KRaise
import PyProof.AutoRange
import PyProof.AutoSeq1
import PyProof.DictFindH
import PyProof.DictTruth
import PyProof.DictWalks
import PyProof.EqAt
import PyProof.EqKinds
import PyProof.ExcArgsOwn
import PyProof.ExcBaseAll.ValueError
import PyProof.FactsAll.range_2
import PyProof.FactsAll.tuple_2
import PyProof.InstStore
import PyProof.InstStoreFacts
import PyProof.ListMulRoad
import PyProof.MeetsDictList
import PyProof.NeKinds
import PyProof.NsDelKeeps
import PyProof.ReprLen
import PyProof.ReprRoads
import PyProof.Rows.Range3
import PyProof.Rows.RegStrFacts
import PyProof.Rows.SortRunsK
import PyProof.Rows.SortShell
import PyProof.Rows.TupDisplay
import PyProof.TupleCall
import PyProof.WalkInts
import PyProof.ExcClass
import PySem.Challenge.RW_slidehall_k19_layers
section
set_option Elab.async false
set_option compiler.extract_closed false
set_option bootstrap.genMatcherCode false
set_option linter.all false
set_option maxRecDepth 100000
set_option maxHeartbeats 0
namespace K19
open PySem PySem.Spec PyProof.Rows PySem.W
def tp (i:Nat):Stmt:=PySem.Challenge.pw_slidehall_k19_layers.main.body.getD i (.Pass ⟨0,0,0,0⟩)
def dA (s:Stmt):Arguments:=match s with
 | .FunctionDef _ z _ _ _ _ _ _ _ _=>z
 | _=>⟨[],[],none,[],[],none,[]⟩
def dB (s:Stmt):List Stmt:=match s with
 | .FunctionDef _ _ z _ _ _ _ _ _ _=>z
 | _=>[]
def dS (s:Stmt):Scope:=match s with
 | .FunctionDef _ _ _ _ _ _ z _ _ _=>z
 | _=>{ kind:=.function,names:=[],isGenerator:=false,isCoroutine:=false }
def FnAt (K:Frag)(x:Str)(i:Nat):Prop:=∃ (f:Addr)(oc:Value)(od an:Option Addr)(osl:Array (Option Value))(kV doc pm cdv ct:Value),nsIn K mainGlobals x=some (some (.ref f)) ∧
 K.lookup f=some ⟨oc,od,.func (fnOf x x (dA (tp i)) (dB (tp i)) (dS (tp i)) .none kV doc pm an cdv ct),osl⟩/\codeIn K cdv x=true/\keepIn K (.ref f)=true
theorem FnAt.of {K:Frag}{x:Str}{i:Nat}{f:Addr}{oc:Value}{od an:Option Addr}{osl:Array (Option Value)}{kV doc pm cdv ct:Value}(a:nsIn K mainGlobals x=some (some (.ref f)):=by k_is)
  (l:K.lookup f=some ⟨oc,od,.func (fnOf x x (dA (tp i)) (dB (tp i)) (dS (tp i)) .none kV doc pm an cdv ct),osl⟩:=by k_is)(c:codeIn K cdv x=true:=by k_is)(k:keepIn K (.ref f)=true:=by k_is):FnAt K x i:=⟨f,oc,od,an,osl,kV,doc,pm,cdv,ct,a,l,c,k⟩
def nZ(K)(x):=nsIn K mainGlobals x=some none
theorem nZ.of{K:Frag}{x}(h:nsIn K mainGlobals x=some none:=by k_is):nZ K x:=h
inductive Facts(K:Frag):Prop
|mk    (_:FnAt K "_law_begin" 27)(_:FnAt K "_law_take" 28)(_:FnAt K "within" 5)(_:FnAt K "covered" 6)(_:FnAt K "holders" 7)(_:FnAt K "goes" 12)(_:FnAt K "one_further" 13)(_:FnAt K "met_by" 14)(_:FnAt K "movers_among" 15)(_:FnAt K "movers" 16)(_:FnAt K "behind_step" 17)(_:FnAt K "stands_along" 18)(_:FnAt K "pushes_with_ends" 19)(_:FnAt K "refuse_too_many" 22)(_:FnAt K "layer_behind" 23)(_:FnAt K "spread" 24)(_:FnAt K "layers" 25)(_:FnAt K "_law_covered" 30)(_:FnAt K "_law_room_of" 31)(_:FnAt K "_law_sized" 32)(_:FnAt K "_law_kind" 33)(_:FnAt K "_law_hall" 34)(_:FnAt K "_law_behind" 35)(_:FnAt K "_law_goes" 36)(_:FnAt K "_law_step" 37)(_:FnAt K "_law_pushed" 38)(_:FnAt K "_law_pushes" 39)(_:FnAt K "_law_layers" 40)(_:FnAt K "_law_lane" 41)(_:FnAt K "_law_same" 29)(_:FnAt K "law" 42)(_:nZ K "len")(_:nZ K "divmod")(_:nZ K "list")(_:nZ K "tuple")(_:nZ K "int")(_:nZ K "bool")(_:nZ K "str")(_:nZ K "dict")(_:nZ K "isinstance")(_:nZ K "all")(_:nZ K "any")(_:nZ K "sum")(_:nZ K "zip")(_:nZ K "enumerate")(_:nZ K "range")(_:nZ K "sorted")(_:nZ K "min")(_:nZ K "max")(_:nZ K "abs")(_:nZ K "reversed")(_:nZ K "set"){c9:Tok}(d9:nsIn K mainGlobals "WALL"=some (some (.int (-1) c9))){c5:Tok}(d6:nsIn K mainGlobals "STRONG"=some (some (.int (1) c5))){d0:Tok}(d8:nsIn K mainGlobals "DULL"=some (some (.int (-1) d0))){a0 a2 a1 a4 a3:Addr}{b3 b1 b0 a7 a6:Option Addr}{b9 a9 b2 a5 a8:Array (Option Value)}{c8 c0 b4 c4 b8:Nat}{c7 c6 c1 c3 b5 b7 b6 c2:Tok}(d7:nsIn K mainGlobals "STEPS"=some (some (.ref a0)))(d4:K.lookup a0=some ⟨.type "tuple",b3,.seq #[.ref a2,.ref a1,.ref a4,.ref a3] c8,b9⟩)(d1:K.lookup a2=some ⟨.type "tuple",b1,.seq #[.int (1) c7,.int (0) c6] c0,a9⟩)(d2:K.lookup a1=some ⟨.type "tuple",b0,.seq #[.int (0) c1,.int (1) c3] b4,b2⟩)(d3:K.lookup a4=some ⟨.type "tuple",a7,.seq #[.int (-1) b5,.int (0) b7] c4,a5⟩)(d5:K.lookup a3=some ⟨.type "tuple",a6,.seq #[.int (0) b6,.int (-1) c2] b8,a8⟩){t_MOST_STANDS:Tok}(y_MOST_STANDS:nsIn K mainGlobals "MOST_STANDS"=some (some (.int (2000) t_MOST_STANDS))):Facts K
end K19
open PySem PySem.W PyProof.Rows PySem.Challenge
noncomputable def vw:Program:=view rw_slidehall_k19_layers.row.toRowW.prog [1,2,4,5,6,7,9,10,11,12,13,14,15,16,17,18,19,21,22,23,24,25,27,28,29,30,31,32,33,34,35,36,37,38,39,40,41,42]
local macro_rules
 | `(tactic| o_head $H)=>`(tactic| (
  refine holds_open (q:=vw) (loose:=[]) (N:=6100) (Xt:=λs=>xlAt vw [] s && recOk rw_slidehall_k19_layers.row.toRowW.records s) (XP:=XL vw []) (Yf:=Hook.obs $H) (Ya:=Hook.val $H) (YP:=Hook.says $H) ?hl (Hook.of $H) (Hook.keeps $H) (λs e=>xl_of s (Bool.and_eq_true_iff.mp e).1) XL.keeps (by rfl) (by rfl) (by rfl) (λs e=>recFacts_of (Bool.and_eq_true_iff.mp e).2) (by rfl) (by first | assumption | decide +kernel) (by decide +kernel) ⟨rfl,rfl,rfl,rfl,rfl,by decide +kernel⟩ ?hw ?hc
  (case hl=>intro w; kernel_rfl)
  (case hw=>w_witness2)))
theorem K19.early (W:∀ (q:Program) (loose:List Str) (XP:(Str->Option Value)->Heap->Prop) (YP:World->Heap->Prop) (d:DefRec) (K:Params->Frag),d.params.defaults = []->d.name = "law"->(∀ (w:World) (h:Heap),YP w h->(K w.params).In h)->(∀ P:Params,K19.Facts (K P)) →
  WalkO q loose XP YP rw_slidehall_k19_layers.row.toRowW d [] (λf vs=>PySem.call f vs)):rw_slidehall_k19_layers.Holds:=by
 w_on; o_law; k_head
 k_fill
 refine W _ _ _ _ _ _ rfl rfl (λw h Y=>kIn_of Y) ?F
 case F =>
  intro P
  exact .mk .of .of .of .of .of .of .of .of .of .of .of .of .of .of .of .of .of .of .of .of .of .of .of .of .of .of .of .of .of .of .of .of .of .of .of .of .of .of .of .of .of .of .of .of .of .of .of .of .of .of .of .of (by k_is) (by k_is) (by k_is) (by k_is) (by k_is) (by k_is) (by k_is) (by k_is) (by k_is) (by k_is)

end
noncomputable section
set_option compiler.extract_closed false
set_option bootstrap.genMatcherCode false
local macro_rules(kind:=Lean.Parser.Command.declaration)
 |x=>if x.getHeadInfo matches .original .. then pure (if (x[1].getKind==``Lean.Parser.Command.«abbrev»||x[1].getKind==``Lean.Parser.Command.definition&&x[1][1][0].getId.isAtomic&&x[1][1][0].getId.toString.front.isUpper)&&x[0].getHeadInfo matches .none then x.setArg 0 (x[0].modifyArg 4 λ_=>Lean.mkNullNode #[Lean.mkNode ``Lean.Parser.Command.«noncomputable» #[Lean.mkAtom "noncomputable"]])else x.setHeadInfo .none)else Lean.Macro.throwUnsupported
local macro_rules
 |`(command|open H in $c)=>`(command|set_option tactic.hygienic true in $c)
local macro_rules
 | `(tactic| and_intros)=>`(tactic| exact ⟨rfl,rfl,rfl,by decide +kernel,rfl,by decide +kernel,by decide +kernel⟩)
set_option hygiene false in
local macro_rules
 |`('s')=>`((starEach (e::es) X.env=(false,eval e X.env)::starEach es X.env))
set_option hygiene false in
local macro_rules
 |`('u')=>`(((x == ("__debug__" : Str))=false))
set_option hygiene false in
local macro_rules
 |`('v')=>`((E1 X.env.cells scope.names []))
set_option hygiene false in
local macro_rules
 |`('w')=>`((λb=>¬W.mv b))
set_option hygiene false in
local macro_rules
 |`('i')=>`(((backTo pos (starEach es X.env)).any (·.1)=false))
set_option hygiene false in
local macro_rules
 |`('m')=>`((us.map Tr.pos))
set_option hygiene false in
local macro_rules
 |`('k')=>`((ns.map V.int))
local macro_rules
 |`('o')=>`(by omega)
local macro_rules
 |`('z')=>`(by decide)
local macro_rules
 |`('d')=>`(by simp)
set_option hygiene false in
local macro_rules
 |`('r')=>`((model prog w))
set_option hygiene false in
local macro_rules
 |`('e')=>`((model X.prog X.w))
set_option hygiene false in
local macro_rules
 |`('p')=>`((Addr×Obj))
local macro_rules
 |`(command|instance $i:declId $s:declSig $v:declVal)=>if i.raw.getHeadInfo matches .original .. then do let x<-Lean.getRef;pure (Lean.mkNode x.getKind #[x[0].modifyArg 4 λ_=>Lean.mkNullNode #[Lean.mkNode ``Lean.Parser.Command.«noncomputable» #[Lean.mkAtom "noncomputable"]],Lean.mkNode ``Lean.Parser.Command.definition #[Lean.mkAtom "def",i,Lean.mkNode ``Lean.Parser.Command.optDeclSig #[s.raw[0],Lean.mkNullNode #[s.raw[1]]],v,Lean.mkNullNode]])else Lean.Macro.throwUnsupported
local macro_rules
 |`({$x:term,$y:term})=>`(⟨$x,$y⟩)
 |`({$x:term,$y:term,$z:term,*})=>`(⟨$x,$y,$z,*⟩)
local macro_rules
 |`(tactic|cases $e:ident)=>`(tactic|first|(replace $e:ident:=Option.some.inj $e;cases ($e))|cases ($e))
open PySem renaming wpAny_bind→Ac,wpAny_pure→An,wpAny_field→B3,wpAny_setField_rec→Eu,wpAny_mono→C4,wpAny_truthy_bool→D6,wpAny_call_entry→Ev,wpAny_seqItems→Ew
open List renaming length_map→Ag,getElem?_eq_getElem→AU,getElem?_eq_some_iff→AZ,getElem?_map→AT,length_append→A8,size_toArray→A6,mem_cons→AK,mem_of_getElem?→BI,mem_singleton→Bz,append_assoc→BB,getElem?_set_ne→Ci,map_append→BG,mem_append→BP,length_cons→B4,take_add_one→Cy,append_nil→Ck,map_cons→BX,take_length→C6,length_take→C7,getElem?_append_left→EU,mem_map→B7,getElem?_of_mem→D7,length_range→Dy,mem_append_right→Ey,not_mem_nil→DC,pairwise_append→Ez,mem_cons_of_mem→EA,pairwise_cons→Ea,map_map→Cz,length_set→DD,mem_cons_self→EW,mem_append_left→E8,mem_flatMap→EE,mem_range→EF,replicate_succ→Fs,flatMap_append→Ft,take_of_length_le→FT,getD_eq_getElem?_getD→Gu,length_filter_le→FU,pairwise_iff_getElem→Gv,nodup_cons→Fe,nodup_append→Fw,flatten_cons→Fx,getElem?_set_self→Gx,length_replicate→Gy,getElem?_append_right→G9,mem_of_mem_take→GA,range_succ→FX,length_nil→FY,find?_cons→FZ,pairwise_singleton→Hc,length_eq_zero_iff→Hd,getElem?_replicate→He,ext_getElem?→GC,drop_zero→F1
open PySem.Heap renaming get?_push_of_some→AM,get?_push_size→Bi,size_push→DP,get?_push_ne→GD
open Nat renaming le_refl→Am,zero_add→Ay,le_trans→Az,lt_of_lt_of_le→AW,zero_le→AE,lt_of_le_of_lt→Cj,ne_of_lt→Bk,le_add_right→Cq,le_of_lt→BC,add_le_add_left→Di,le_of_eq→BY,add_comm→Cm,add_lt_add_left→EB,lt_irrefl→Dj,le_of_not_lt→ED,add_assoc→Eb,add_sub_cancel'→Fq,lt_of_le_of_ne→Fu,not_lt_zero→E9,min_eq_left→Fb,le_antisymm→Fc,le_add_left→Fd,le_of_lt_succ→Fv,lt_of_succ_lt_succ→Gw,add_lt_of_lt_sub→Gz,succ_le_succ→FV,add_sub_cancel_left→Hb,le_of_succ_le_succ→Hf,le_succ→Ff
open Bool renaming false_ne_true→BA,false_eq_true→Dw,and_self→EG,and_eq_true_iff→GB,and_eq_true→FW,not_true→Fy
open Option renaming map_some→BJ
open Int renaming toNat_natCast→Dz
open Array renaming toList_append→EC,length_toList→EV,getElem?_eq_getElem→Ha
open PySem PySem.Spec PyProof.Rows
open PySem.W renaming Frag→FG
open PySem.W (nsIn keepIn codeIn mg_of mg_none_of fnOf sortI eq_sortI)
def ag:type_of% @wpS_bind:=@wpS_bind
def ak:type_of% @wpS_pure:=@wpS_pure
def aS:type_of% @wpS_forRange:=@wpS_forRange
def aW:type_of% @wpAny_rule:=@wpAny_rule
def aN:type_of% @wpS_mono:=@wpS_mono
def bf:type_of% @wpS_modify:=@wpS_modify
def aw:type_of% @decide_eq_false:=@decide_eq_false
def az:type_of% @decide_eq_true:=@decide_eq_true
def bO:type_of% @beq_self_eq_true:=@beq_self_eq_true
set_option Elab.async false
set_option linter.all false
set_option maxRecDepth 100000
set_option tactic.hygienic false
set_option maxHeartbeats 0
local macro_rules
 | `(tactic| omega)=>`(tactic| first|with_reducible assumption|with_reducible exact Nat.le_refl _|with_reducible exact Nat.zero_le _|lia|omega +splitDisjunctions)
def uR:=PyProof.Rows.ld_const._auto_3
def uD:=PyProof.Rows.ld_const._auto_5
namespace L2
abbrev Au:=Sum Int Str
def Dm:Au->Value->Bool
 | .inl k,v=>Value.isInt k v
 | .inr x,v=>Value.isStrOf x v
def JZ(w:World):Au->Int
 | .inl k=>hashInt k
 | .inr x=>hashStr w x
theorem bb:∀{k:Au} {v:Value},Dm k v=true->(∃i t,k=Sum.inl i/\v=Value.int i t)\/(∃x t,k=Sum.inr x/\v=Value.str x t)
 | .inl i,v,h=>by
   obtain⟨t,e⟩:=Value.isInt_shape (k:=i) (v:=v) h;exact .inl ⟨i,t,rfl,e⟩
 | .inr x,v,h=>by
   obtain⟨t,e⟩:=Value.isStrOf_shape (x:=x) (v:=v) h;exact .inr ⟨x,t,rfl,e⟩
def ie(i:Int)(t:Tok):Dm (.inl i) (.int i t)=true:=by simp[Dm,Value.isInt]
def ig(x:Str)(t:Tok):Dm (.inr x) (.str x t)=true:=by simp[Dm,Value.isStrOf]
def mI(a b:Int):decide ((Sum.inl a:Au)=Sum.inl b)=(a == b):=by
 by_cases e:a=b
 ·subst e;simp
 ·have h:¬(Sum.inl a:Au)=Sum.inl b:=λq=>e (Sum.inl.inj q)
  rw[aw h];exact(beq_eq_false_iff_ne.mpr e).symm
def mJ(a b:Str):decide ((Sum.inr a:Au)=Sum.inr b)=decide (a=b):=by
 by_cases e:a=b
 ·subst e;simp
 ·have h:¬(Sum.inr a:Au)=Sum.inr b:=λq=>e (Sum.inr.inj q)
  rw[aw h,aw e]
def mK(a:Int)(b:Str):decide ((Sum.inl a:Au)=Sum.inr b)=false:=aw (λq=>nomatch q)
def mL(a:Str)(b:Int):decide ((Sum.inr a:Au)=Sum.inl b)=false:=aw (λq=>nomatch q)
def BL(prog:Program)(w:World):PySem.KeyKind prog w Au where
 is:=Dm
 hash:=JZ w
 inj:=λv a b ha hb=>by
  rcases bb ha with⟨i,t,rfl,rfl⟩ | ⟨x,t,rfl,rfl⟩
  ·rcases bb hb with⟨j,u,rfl,e⟩ | ⟨y,u,rfl,e⟩
   ·injection e with e1 _;rw[e1]
   ·exact nomatch e
  ·rcases bb hb with⟨j,u,rfl,e⟩ | ⟨y,u,rfl,e⟩
   ·exact nomatch e
   ·injection e with e1 _;rw[e1]
 byValue:=λk v h=>by
  rcases bb h with⟨i,t,rfl,rfl⟩ | ⟨x,t,rfl,rfl⟩<;>rfl
 pyHash:=λhv h=>by
  rcases bb hv with⟨i,t,rfl,rfl⟩ | ⟨x,t,rfl,rfl⟩
  ·exact wpAny_pyHash_int h
  ·exact wpAny_pyHash_str h
 eqBool:=λhu hv h=>by
  rcases bb hu with⟨i,t,rfl,rfl⟩ | ⟨x,t,rfl,rfl⟩
  ·rcases bb hv with⟨j,u,rfl,rfl⟩ | ⟨y,u,rfl,rfl⟩
   ·rw[mI] at h;exact wpAny_eqBool_int h
   ·rw[mK] at h;exact SeqAt.EqAt.int_str i t y u _ _ _ _ h
  ·rcases bb hv with⟨j,u,rfl,rfl⟩ | ⟨y,u,rfl,rfl⟩
   ·rw[mL] at h;exact SeqAt.EqAt.str_int x t j u _ _ _ _ h
   ·rw[mJ] at h;exact wpAny_eqBool_str h
 «strs»:=λk x t v h=>by
  rcases bb h with⟨i,u,rfl,e⟩ | ⟨y,u,rfl,e⟩
  ·exact nomatch e
  ·injection e with e1 _
   subst e1;cases v<;>rfl
def mM(prog:Program)(w:World)(i:Int)(t:Tok):(BL prog w).is (.inl i) (.int i t)=true:=ie i t
def mN(prog:Program)(w:World)(x:Str)(t:Tok):(BL prog w).is (.inr x) (.str x t)=true:=ig x t
inductive Ak where
 | inl (i:Int) | inr (x:Str) | t (l:List Au)
 deriving DecidableEq
def Fz(prog:Program)(w:World):Ak->Int
 | .inl i=>(BL prog w).hash (.inl i)
 | .inr x=>(BL prog w).hash (.inr x)
 | .t l=>tupleKeyHash (BL prog w) l
def HL:Ak->Nat
 | .t l=>l.length+1
 | _=>1
def B8(prog:Program)(w:World)(h:Heap):Ak->Value->Prop
 | .inl i,v=>Dm (.inl i) v=true
 | .inr x,v=>Dm (.inr x) v=true
 | .t l,v=>∃b,v=.ref b/\IsTupleKey (BL prog w) h l b
def C9(prog:Program)(w:World)(h:Heap)(ks:List Ak)(a:Addr):Prop:=∃o items n,h.get? a=some o/\o.cls=.type "tuple"/\o.data=.seq items n/\Paired (B8 prog w h) ks items.toList
def C9.typeIs{s:Shared}{b:List Ak}{a:Addr}(x:C9 prog w s.heap b a):s.TypeIs (.ref a) "tuple":=let ⟨o,_,_,c,a,_⟩:=x;⟨o,c,a⟩
def mO{h:Heap}{x y:Ak}{v:Value}(f:B8 prog w h x v)(d:B8 prog w h y v):x=y:=by
 have g:∀{a b:Au},Dm a v=true->Dm b v=true->a=b:=λp q=>(BL prog w).inj _ _ _ p q
 have h:∀{a:Au} {c:Addr},Dm a v=true->v=.ref c->False:=λp e=>by
  rcases bb p with⟨_,_,_,e'⟩ | ⟨_,_,_,e'⟩<;>rw[e] at e'<;>cases e'
 cases x<;>cases y<;>simp only[B8] at f d
 ·have:=g f d;cases this;rfl
 ·have:=g f d;cases this
 ·obtain⟨b,e,_⟩:=d;exact(h f e).elim
 ·have:=g f d;cases this
 ·have:=g f d;cases this;rfl
 ·obtain⟨b,e,_⟩:=d;exact(h f e).elim
 ·obtain⟨b,e,_⟩:=f;exact(h d e).elim
 ·obtain⟨b,e,_⟩:=f;exact(h d e).elim
 ·obtain⟨b,e,q⟩:=f
  obtain⟨c,e',a⟩:=d;rw[e] at e';cases e';rw[q.inj a]
theorem ij{h:Heap}:∀{x y:List Ak} {e:List Value},Paired (B8 prog w h) x e->Paired (B8 prog w h) y e->x=y
 | _,_,_,.nil,.nil=>rfl
 | _,_,_,.cons a b,.cons c d=>by rw[mO a c,ij b d]
def mP{h a:Heap}{k:Ak}{v:Value}{d:Addr}{o:Obj}{es ep}(x:B8 prog w h k v)(f:h.get? d=some o)(c:o.data=.dict es ep)(g:Heap.SameBut d h a):B8 prog w a k v:=by
 cases k with
 | inl i=>exact x
 | inr i=>exact x
 | t l=>obtain⟨b,e,q⟩:=x;exact{b,e,q.keeps f c g}
def mR{k:Ak}{v:Value}{Q:Int->Shared->Prop}(c:A.units<cLine)(h:B8 prog w s.heap k v)(a:Q (Fz prog w k) { s with toks:=s.toks+HL k }):wpAny 'r' A (PySem.pyHash v) Q E s:=by
 cases k with
 | inl i=>exact(BL prog w).pyHash (k:=.inl i) h a
 | inr i=>exact(BL prog w).pyHash (k:=.inr i) h a
 | t l=>obtain⟨b,rfl,q⟩:=h;exact wpAny_pyHash_tuple c q a
def mS{x y:Ak}{u v:Value}{Q:Bool->Shared->Prop}(g:A.units<cLine)(d:B8 prog w s.heap x u)(c:B8 prog w s.heap y v)(f:Q (decide (x=y)) s):wpAny 'r' A (PySem.eqBool u v) Q E s:=by
 have j:∀{a b:Au},Dm a u=true->Dm b v=true->Q (decide (a=b)) s->wpAny 'r' A (PySem.eqBool u v) Q E s:=λp q r=>(BL prog w).eqBool p q r
 have h:∀{l:List Au} {b:Addr},IsTupleKey (BL prog w) s.heap l b->∃a,s.heap.IsTuple b a:=λ⟨o,a,n,e,l,i,_⟩=>⟨a,o,e,l,n,i⟩
 cases x<;>cases y<;>simp only[B8] at d c
 ·exact j d c (by simpa using f)
 ·exact j d c (by simpa using f)
 ·obtain⟨b,rfl,q⟩:=c
  obtain⟨a,t⟩:=h q;rcases bb d with⟨i,z,_,rfl⟩ | ⟨i,z,e,_⟩
  ·exact SeqAt.EqAt.int_tuple i z t g _ _ _ _ (by simpa using f)
  ·cases e
 ·exact j d c (by simpa using f)
 ·exact j d c (by simpa using f)
 ·obtain⟨b,rfl,q⟩:=c
  obtain⟨a,t⟩:=h q;rcases bb d with⟨i,z,e,_⟩ | ⟨i,z,_,rfl⟩
  ·cases e
  ·exact SeqAt.EqAt.str_tuple i z t g _ _ _ _ (by simpa using f)
 ·obtain⟨b,rfl,q⟩:=d
  obtain⟨a,t⟩:=h q;rcases bb c with⟨i,z,_,rfl⟩ | ⟨i,z,e,_⟩
  ·exact SeqAt.EqAt.tuple_int i z t g _ _ _ _ (by simpa using f)
  ·cases e
 ·obtain⟨b,rfl,q⟩:=d
  obtain⟨a,t⟩:=h q;rcases bb c with⟨i,z,e,_⟩ | ⟨i,z,_,rfl⟩
  ·cases e
  ·exact SeqAt.EqAt.tuple_str i z t g _ _ _ _ (by simpa using f)
 ·obtain⟨b,rfl,q⟩:=d
  obtain⟨e,rfl,a⟩:=c;exact wpAny_eqBool_tuple g q a (by simpa using f)
def HM(prog:Program)(w:World)(ks:List Ak):Int:=reduceHash (Builtin.Tuple.tupleHashOf (ks.map (Fz prog w)))
def HN(ks:List Ak):Nat:=(ks.map HL).sum+1
def mU{c:List Ak}{a:Addr}{Q:Int->Shared->Prop}(b:A.units+1<cLine)(e:C9 prog w s.heap c a)(h:Q (HM prog w c) { s with toks:=s.toks+HN c }):wpAny 'r' A (PySem.pyHash (.ref a)) Q E s:=by
 have b:=e.typeIs;obtain⟨o,d,n,g,_,i,f⟩:=e;have d:A.units<cLine:=by omega
 unfold pyHash;first | unfold pyHashByItsType | skip
 first | refine Ac (wpAny_cRoomFor_or (.inr d) ?_) | skip
 refine Ac (wpAny_specialOf b F.slot_tuple_hash.lookup ?_);show wpAny _ _ (if (some (Value.builtin "tuple.__hash__") == some Value.none)=true then _ else _) Q E s;rw[if_neg (by rw[beq_builtin_none];exact BA)];refine Ac (wpAny_specialOf b F.slot_tuple_hash.lookup ?_);show wpAny _ _ (callSpecialIfBoundUnlessNone? (.ref a) "__hash__" _ >>= _) Q E s;refine Ac (wpAny_callSpecialIfBoundUnlessNone?_slot b F.slot_tuple_hash (Ev F.slot_tuple_hash b F.entry_tuple_hash ?_ (F.args_tuple_hash_1 _)));show wpAny _ _ (Builtin.Tuple.tupleItemsOf (.ref a) >>= _) _ _ s;refine Ac (wpAny_tupleItemsOf g i ?_);refine Ac ?_;rw[<-Array.forIn_toList];refine wpAny_forIn_list _
  (λa (b:Array Int) s'=>∃done left,c=done++left/\Paired (B8 prog w s.heap) left a/\b.toList=done.map (Fz prog w)/\s'={ s with toks:=s.toks+(done.map HL).sum })
  _ ?_ ?_ _ _ {[],c,rfl,f,rfl,rfl}
 ·rintro x a b s' ⟨done,left,rfl,f,e,rfl⟩
  cases f with
  | @cons k _ d _ g a=>
    refine Ac (mR (by rw[Around.in1_units];omega) g ?_);first
     | exact An {done++[k],d,'d',a,by simp[e],by simp[Eb]}
     | exact Ac (An (An {done++[k],d,'d',a,by simp[e],by simp[Eb]}))
 ·rintro b s' ⟨done,left,rfl,f,e,rfl⟩
  cases f;rw[Ck] at h;show wpAny _ _ (retInt (Builtin.Tuple.tupleHashOf b.toList)) _ _ _;rw[e];refine wpAny_ret_mkInt ?_;unfold HM reduceHash HN at h;show wpAny _ _ (if (decide (-(2:Int) ^ 63<=Builtin.Tuple.tupleHashOf (done.map (Fz prog w)))&&decide (Builtin.Tuple.tupleHashOf (done.map (Fz prog w))<2 ^ 63))=true then _ else _) Q E _;by_cases a:(decide (-(2:Int) ^ 63<=Builtin.Tuple.tupleHashOf (done.map (Fz prog w)))&&decide (Builtin.Tuple.tupleHashOf (done.map (Fz prog w))<2 ^ 63))=true
  ·rw[if_pos a]
   rw[if_pos a] at h;exact An (by simpa [Eb] using h)
  ·rw[if_neg a]
   rw[if_neg a] at h;exact Ac (aW (An (by simpa [Eb] using h)))
def mV{x y:List Ak}{a b:Addr}{P:Fin->Shared->Prop}(C:A.units<cLine)(e:C9 prog w s.heap x a)(j:C9 prog w s.heap y b)(h:P (.done (.ret (.bool (decide (x=y))))) s) :
 wpAny 'r' A (Builtin.«tuple.__eq__» {[.ref a,.ref b],[]}) P E s:=by
 have c:=j.typeIs;obtain⟨d,A,a,i,_,g,f⟩:=e;obtain⟨m,q,l,a,_,d,e⟩:=j;show wpAny _ _ (isInstance (.ref b) (.type "tuple") >>= _) _ _ s;refine Ac (wpAny_isInstance c isSubtype_tuple_tuple ?_);simp only[Fy,Dw,if_false];refine Ac (wpAny_tupleItemsOf i g ?_);refine Ac (wpAny_tupleItemsOf a d ?_);refine Ac ?_;refine wpAny_forIn_list _
  (λa r s'=>r.1=none/\s'=s/\∃p z d b,a=List.zip d b/\Paired (B8 prog w s.heap) p d/\Paired (B8 prog w s.heap) z b/\decide (p=z)=decide (x=y)/\(d.length == b.length)=(A.size == q.size))
  _ ?_ ?_ _ _ {rfl,rfl,x,y,A.toList,q.toList,rfl,f,e,rfl,'d'}
 ·rintro ⟨u,v⟩ a r s' ⟨s,rfl,p,z,d,b,g,f,e,a,c⟩
  cases f with
  | nil=>simp at g
  | @cons v u' n i B o=>
    cases e with
    | nil=>simp at g
    | @cons u v' j m E l=>
      simp only[List.zip_cons_cons,List.cons.injEq,Prod.mk.injEq] at g;obtain⟨⟨rfl,rfl⟩,rfl⟩:=g;refine Ac (mS (x:=v) (y:=u) C B E ?_);by_cases r:v=u
      ·subst r
       rw[az rfl];simp only[Fy,Dw,if_false];refine An {rfl,rfl,n,j,i,m,rfl,o,l,?_,by simpa using c};rw[<-a];by_cases i:n=j
       ·simp[i]
       ·simp[i]
      ·rw[aw r]
       simp only[Bool.not_false,if_true];have i:decide (x=y)=false:=by rw[<-a];simp[r]
       rw[i] at h;exact Ac (An (An (An h)))
 ·rintro ⟨j,i⟩ s' ⟨s,rfl,p,z,d,b,g,f,e,a,c⟩
  simp only at s;subst s;refine An ?_;have b:(A.size == q.size)=decide (x=y):=by
   rw[<-a,<-c];cases f with
   | nil=>
     cases e with
     | nil=>simp
     | cons _ _=>simp
   | cons _ _=>
     cases e with
     | nil=>simp
     | cons _ _=>simp at g
  show P (.done (.ret (.bool (A.size == q.size)))) s';rw[b];exact h
def C9.inj{h:Heap}{x y:List Ak}{a:Addr}(d:C9 prog w h x a)(f:C9 prog w h y a):x=y:=by
 obtain⟨o,a,n,h,_,e,g⟩:=d;obtain⟨o',b,i,c,_,a,d⟩:=f;obtain rfl:o=o':=Option.some.inj (h.symm.trans c);rw[e] at a;injection a with h1 _
 subst h1;exact ij g d
def mW{x y:List Ak}{a b:Addr}{Q:Bool->Shared->Prop}(c:A.units+1<cLine)(d:C9 prog w s.heap x a)(f:C9 prog w s.heap y b)(h:Q (decide (x=y)) s) :
 wpAny 'r' A (PySem.eqBool (.ref a) (.ref b)) Q E s:=by
 unfold PySem.eqBool;try with_reducible refine wpAny_holding ?_
 show wpAny _ _ (if (Value.ref a == Value.ref b)=true then _ else _) Q E s;by_cases c:(Value.ref a == Value.ref b)=true
 ·rw[if_pos c]
  have e:a=b:=by have:=eq_of_beq c;injection this
  subst e;obtain rfl:=d.inj f;exact Ac (aW (An (by simpa using h)))
 ·rw[if_neg c]
  exact Ac (wpAny_richCompare_same_room (op:=.Eq) d.typeIs f.typeIs F.slot_tuple_eq
   (Ev F.slot_tuple_eq d.typeIs F.entry_tuple_eq (mV (by rw[Around.in1_units];omega) d f {_,rfl,(λe=>nomatch e),D6 h}) (F.args_tuple_eq_2 _ _)) 'o')
def mX{l:List Au}{a:Addr}{n:Nat}{Q:Bool->Shared->Prop}(i:IsTupleKey (BL prog w) s.heap l a)(h:Q true s):wpAny 'r' A (eqIsQuiet (n+1) (.ref a)) Q E s:=by
 have g:=i.typeIs;obtain⟨o,d,m,q,_,j,p⟩:=i;unfold eqIsQuiet;refine Ac (wpAny_specialOf g F.slot_tuple_eq.lookup ?_);show wpAny _ _ (isInstance (.ref a) (.type "tuple") >>= _) _ _ s;refine Ac (wpAny_isInstance g isSubtype_tuple_tuple ?_);simp only[Fy,Dw,if_false];refine Ac (Ew q j ?_);refine Ac ?_;show wpAny _ _ (forIn d _ _) _ _ s;rw[<-Array.forIn_toList];refine wpAny_forIn_list _ (λc r s'=>r.1=none/\s'=s/\∀v∈c,carriedByValue v=true) _ ?_ ?_ _ _ ⟨rfl,rfl,p.byValue⟩
 ·rintro v c r s' ⟨f,rfl,b⟩
  rw[eqIsQuiet_byValue _ (b v EW)];refine Ac (An ?_);simp only[Fy,Dw,if_false];exact An {rfl,rfl,λu e=>b u (EA _ e)}
 ·rintro ⟨x,y⟩ s' ⟨f,rfl,_⟩
  simp only at f;subst f;exact An h
def mY{k:Ak}{v:Value}{n:Nat}{Q:Bool->Shared->Prop}(a:B8 prog w s.heap k v)(h:Q true s):wpAny 'r' A (eqIsQuiet (n+1) v) Q E s:=by
 have c:∀{k:Au},Dm k v=true->wpAny 'r' A (eqIsQuiet (n+1) v) Q E s:=λz=>by
  rw[eqIsQuiet_byValue _ ((BL prog w).byValue _ _ z)];exact An h
 cases k with
 | inl i=>exact c a
 | inr i=>exact c a
 | t l=>obtain⟨b,rfl,q⟩:=a;exact mX q h
def mZ{g:List Ak}{a:Addr}{Q:Bool->Shared->Prop}(i:C9 prog w s.heap g a)(h:Q true s):wpAny 'r' A (eqIsQuiet 8 (.ref a)) Q E s:=by
 have f:=i.typeIs;obtain⟨o,c,m,q,_,j,p⟩:=i;unfold eqIsQuiet;refine Ac (wpAny_specialOf f F.slot_tuple_eq.lookup ?_);show wpAny _ _ (isInstance (.ref a) (.type "tuple") >>= _) _ _ s;refine Ac (wpAny_isInstance f isSubtype_tuple_tuple ?_);simp only[Fy,Dw,if_false];refine Ac (Ew q j ?_);refine Ac ?_;show wpAny _ _ (forIn c _ _) _ _ s;rw[<-Array.forIn_toList];refine wpAny_forIn_list _ (λb r s'=>r.1=none/\s'=s/\∃left,Paired (B8 prog w s.heap) left b) _ ?_ ?_ _ _ ⟨rfl,rfl,g,p⟩
 ·rintro v b r s' ⟨e,rfl,left,d⟩
  cases d with
  | cons l d=>
    refine Ac (mY (n:=6) l ?_);simp only[Fy,Dw,if_false];exact An {rfl,rfl,_,d}
 ·rintro ⟨x,u⟩ s' ⟨e,rfl,_⟩
  simp only at e;subst e;exact An h
theorem ik{h a:Heap}{d:Addr}{o:Obj}{es ep}(f:h.get? d=some o)(e:o.data=.dict es ep)(i:Heap.SameBut d h a):∀{g:List Ak} {c:List Value},Paired (B8 prog w h) g c->Paired (B8 prog w a) g c
 | _,_,.nil=>.nil
 | _,_,.cons a b=>.cons (mP a f e i) (ik f e i b)
def C9.keeps{h c:Heap}{j:List Ak}{a d:Addr}{o:Obj}{es ep}(x:C9 prog w h j a)(g:h.get? d=some o)(i:o.data=.dict es ep)(l:Heap.SameBut d h c):C9 prog w c j a:=by
 obtain⟨o',b,n,e,m,c,h⟩:=x;have f:a≠d:=by
  rintro rfl;obtain rfl:o'=o:=Option.some.inj (e.symm.trans g);rw[i] at c;exact nomatch c
 exact{o',b,n,(l.2 a f).trans e,m,c,ik g i l h}
def EL(prog:Program)(w:World):HeapKind prog w (List Ak) where
 is:=C9 prog w
 hash:=HM prog w
 draws:=HN
 room:=λA=>A.units+1<cLine
 inj:=λhx hy=>hx.inj hy
 keeps:=λx ho hd hs=>x.keeps ho hd hs
 pyHash:=λhu hk h=>mU hu hk h
 eqBool:=λhu hx hy h=>mW hu hx hy h
 quiet:=λhk h=>mZ hk h
inductive V where
 | non | bl (b:Bool) | int (i:Int) | str (x:Str) | byt (b:Array UInt8) | flt (b:UInt64) | ref (a:Addr) | ty (n:String)
 deriving DecidableEq
def Aj:V->Value->Prop
 | .non,u=>u=Value.none
 | .bl b,u=>u=Value.bool b
 | .int i,u=>∃t,u=Value.int i t
 | .str x,u=>∃t,u=Value.str x t
 | .byt b,u=>∃t,u=Value.bytes b t
 | .flt b,u=>∃t,u=Value.float b t
 | .ref a,u=>u=Value.ref a
 | .ty n,u=>u=Value.type n
abbrev Aq:List V->List Value->Prop:=Paired Aj
def Aq.length{a:List V}{us:List Value}(r:Aq a us):a.length=us.length:=Paired.length r
theorem Aq.get:∀{a:List V} {us:List Value} {i:Nat} {x:V},Aq a us->a[i]?=some x->∃u,us[i]?=some u/\Aj x u
 | _,_,_,_,.nil,e=>by simp at e
 | _,_,0,_,.cons r _,e=>by simp at e;subst e;exact{_,rfl,r}
 | _,_,i+1,x,.cons _ t,e=>by
   obtain⟨u,b,c⟩:=Aq.get (i:=i) (x:=x) t (by simpa using e);exact{u,by simpa using b,c}
theorem Aq.set(r:Aj x u):∀{a:List V} {us:List Value} (i:Nat),Aq a us->Aq (a.set i x) (us.set i u)
 | _,_,_,.nil=>.nil
 | _,_,0,.cons _ t=>.cons r t
 | _,_,i+1,.cons q t=>.cons q (Aq.set r i t)
theorem Aq.append:∀{a c:List V} {us b:List Value},Aq a us->Aq c b->Aq (a++c) (us++b)
 | _,_,_,_,.nil,s=>s
 | _,_,_,_,.cons r t,s=>.cons r (Aq.append t s)
theorem Aq.take:∀{a:List V} {us:List Value} (n:Nat),Aq a us->Aq (a.take n) (us.take n)
 | _,_,0,_=>.nil
 | _,_,_+1,.nil=>.nil
 | _,_,n+1,.cons r t=>.cons r (Aq.take n t)
theorem Aq.drop:∀{a:List V} {us:List Value} (n:Nat),Aq a us->Aq (a.drop n) (us.drop n)
 | _,_,0,r=>r
 | _,_,_+1,.nil=>.nil
 | _,_,n+1,.cons _ t=>Aq.drop n t
def DH:Option V->Option Value->Prop
 | some v,some u=>Aj v u
 | none,none=>True
 | _,_=>False
instance KV{L:Type}:List (L×V)->List (L×Value)->Prop:=Paired λ(p:L×V) (q:L×Value)=>p.1=q.1/\Aj p.2 q.2
instance kV:Au->V
 | .inl i=>.int i
 | .inr x=>.str x
inductive HO where
 /-- a list -/
 | lst (xs:List V)
 /-- a tuple (never changes) -/
 | tup (xs:List V)
 /-- a dict whose keys are ints and texts;one whose keys are tuples of ints and texts (the empty one is Fm) -/
 | dK (kvs:List (Au×V)) | dT (kvs:List (List Ak×V))
 /-- a set of ints: its members,its size -/
 | set (S:Int->Bool) (n:Nat)
 /-- an instance of the class at C,its dict at dx,its attributes -/
 | ins (C dx:Addr) (fs:List (Str×V))
 /-- the dict of the instance at x -/
 | own (x:Addr)
 /-- the dict of an exception -/
 | xd (fs:List (Str×V))
 /-- a bound method,f of x -/
 | met (f x:Addr)
 /-- a range object lo,lo+1,.. below hi -/
 | rng (lo hi:Int)
 /-- a thing that is known to the object (the script;a dict while a loop walks it): read,never written while it is so -/
 | frz (o:Obj) (u:HO)
 /-- a code object's table -/
 | tbl (ps:Array Value)
 /-- any other thing,by what is true of its one object (a def of one's own: SetO a S n:=HO.ext λh=>..) -/
 | ext (φ:Heap->Prop)
abbrev Hp:=Addr->Option HO
def Ad(H:Hp)(a:Addr)(o:HO):Hp:=λb=>if b=a then some o else H b
instance KIs(H:Hp):Ak->V->Prop
 | .inl i,v=>v=.int i
 | .inr x,v=>v=.str x
 | .t l,v=>∃b,v=.ref b/\H b=some (.tup (l.map kV))
def Do(H:Hp)(b:Addr)(k:List Ak):Prop:=∃vs,H b=some (.tup vs)/\Paired (KIs H) k vs
theorem m3{H c:Hp}(d:∀b a,H b=some (.tup a)->c b=some (.tup a)):∀{k:Ak} {v:V},KIs H k v->KIs c k v
 | .inl _,_,h=>h
 | .inr _,_,h=>h
 | .t _,_,⟨b,e,q⟩=>{b,e,d _ _ q}
theorem ip{H a:Hp}(c:∀b e,H b=some (.tup e)->a b=some (.tup e)):∀{k:List Ak} {d:List V},Paired (KIs H) k d->Paired (KIs a) k d
 | _,_,.nil=>.nil
 | _,_,.cons a b=>.cons (m3 c a) (ip c b)
def Do.keeps{H d:Hp}(a:∀b c,H b=some (.tup c)->d b=some (.tup c)){b:Addr}{k:List Ak}(h:Do H b k):Do d b k:=
 let ⟨f,e,q⟩:=h;{f,a _ _ e,ip a q}
def aq:Ad H a o a=some o:=by unfold Ad;rw[if_pos rfl]
def af(h:b≠a):Ad H a o b=H b:=by unfold Ad;rw[if_neg h]
open H in
def upd_upd:Ad (Ad H a o) a u=Ad H a u:=by
 funext b;unfold Ad;split<;>rfl
def bP{H:Hp}{a b:Addr}{o u:HO}(h:H a=some o)(c:H b=some u)(d:o≠u):a≠b:=by
 intro e;subst e;rw[h] at c;exact d (Option.some.inj c)
def au{H:Hp}{a b:Addr}{o:HO}(h:H a=some o)(c:H b=none):a≠b:=by
 intro e;subst e;rw[h] at c;cases c
section
variable(P:Program)(w:World)
instance NoD(h:Heap)(a:Addr):Prop:=∃o,h.get? a=some o/\o.dict=none
def Bb(H:Hp)(h:Heap)(a:Addr):HO->Prop
 | .lst xs=>xs.length<=sizeLine/\∃(its:List Value) (n:Nat),Aq xs its/\h.get? a=some { cls:=.type "list",data:=.seq its.toArray n }
 | .tup xs=>xs.length<=sizeLine/\∃its:List Value,Aq xs its/\IsTup h a its.toArray/\NoD h a
 | .dK kvs=>kvs.length<=sizeLine/\(a == sysModules)=false/\∃vs,KV kvs vs/\h.DictOf (BL P w) a vs
 | .dT kvs=>kvs.length<=sizeLine/\(a == sysModules)=false/\∃xs:List (List Ak×Addr×Value),
  Paired (λ(p:List Ak×V) (q:List Ak×Addr×Value)=>p.1=q.1/\Do H q.2.1 p.1/\Aj p.2 q.2.2) kvs xs/\
  ∃o es ep,h.get? a=some o/\o.ExactDict/\o.data=.dict es ep/\es.toList=xs.map (entryOfKey (EL P w))/\(xs.map (·.1)).Nodup
 | .set S n=>h.SetOf (intKind P w) a S n
 | .ins C dx fs=>H dx=some (.own a)/\fs.length<=1000/\dx≠a/\h.get? a=some (PySem.W.instObj C dx)/\
  ∃mA,h.Ns1 dx mA/\(∀f,DH (fs.lookup f) (mA f))/\PySem.Within mA (fs.map (·.1))
 | .own _=>∃o,h.get? a=some o
 | .xd fs=>∃mA,h.Ns1 a mA/\∀f,DH (fs.lookup f) (mA f)
 | .rng lo hi=>∃t u v,h.get? a=some { cls:=.type "range",data:=.fields #[.int lo t,.int hi u,.int 1 v] }
 | .frz o u=>h.get? a=some o/\Bb H h a u
 | .tbl ps=>h.get? a=some { cls:=.none,data:=.fields ps }
 | .met f x=>h.get? a=some (PySem.W.methodObj (.ref f) (.ref x))
 | .ext φ=>φ h/\(∃o,h.get? a=some o)/\∀h1 h2:Heap,φ h1->(∀o,h1.get? a=some o->h2.get? a=some o)->φ h2
def Bd(H:Hp)(h:Heap):Prop:=∀a o,H a=some o->Bb P w H h a o
end
theorem Bb.lt(x:Bb P w H h a o):a<h.objs.size:=by
 cases o with
 | lst b=>obtain⟨_,_,_,_,e⟩:=x;exact Heap.lt_size e
 | tup b=>obtain⟨_,_,_,p,_⟩:=x;exact p.lt
 | dK b=>obtain⟨_,_,_,_,o,_,_,e,_⟩:=x;exact Heap.lt_size e
 | dT b=>obtain⟨_,_,_,_,o,_,_,e,_⟩:=x;exact Heap.lt_size e
 | set S n=>obtain⟨o,_,_,_,e,_⟩:=x;exact Heap.lt_size e
 | ins C dx b=>obtain⟨_,_,_,e,_⟩:=x;exact Heap.lt_size e
 | own y=>obtain⟨_,e⟩:=x;exact Heap.lt_size e
 | xd b=>obtain⟨_,⟨_,_,_,e,_⟩,_⟩:=x;exact Heap.lt_size e
 | rng b c=>obtain⟨_,_,_,e⟩:=x;exact Heap.lt_size e
 | frz b u=>obtain⟨e,_⟩:=x;exact Heap.lt_size e
 | tbl b=>exact Heap.lt_size (show h.get? a=some _ from x)
 | met f y=>exact Heap.lt_size (show h.get? a=some _ from x)
 | ext φ=>obtain⟨_,⟨_,e⟩,_⟩:=x;exact Heap.lt_size e
theorem Paired.mapP{α β:Type}{F G:α->β->Prop}:∀{d:List α} {c:List β},Paired F d c->(∀a b,F a b->G a b)->Paired G d c
 | _,_,.nil,_=>.nil
 | _,_,.cons r t,f=>.cons (f _ _ r) (Paired.mapP t f)
theorem Bb.stay(x:Bb P w H h a o)(k:∀b u,(b=a\/H b=some (.own a))->h.get? b=some u->h'.get? b=some u)(m:∀b,H b=some (.own a)->H' b=some (.own a))(l:∀b g,H b=some (.tup g)->H' b=some (.tup g)):Bb P w H' h' a o:=by
 induction o with
 | lst g=>obtain⟨z,d,n,r,e⟩:=x;exact{z,d,n,r,k _ _ (.inl rfl) e}
 | tup g=>obtain⟨z,d,r,⟨b,e,c⟩,i,j,f⟩:=x;exact{z,d,r,{b,k _ _ (.inl rfl) e,c},i,k _ _ (.inl rfl) j,f}
 | dK d=>obtain⟨z,y,p,r,b,es,f,e,c⟩:=x;exact{z,y,p,r,b,es,f,k _ _ (.inl rfl) e,c}
 | dT d=>
   obtain⟨z,y,g,r,b,es,f,e,c⟩:=x;exact{z,y,g,Paired.mapP r λp q z=>{z.1,z.2.1.keeps l,z.2.2},b,es,f,k _ _ (.inl rfl) e,c}
 | set S n=>obtain⟨b,es,f,t,e,c⟩:=x;exact{b,es,f,t,k _ _ (.inl rfl) e,c}
 | ins C dx n=>
   obtain⟨d,z,l,e,mA,⟨i,es,f,j,c⟩,r⟩:=x;exact{m _ d,z,l,k _ _ (.inl rfl) e,mA,{i,es,f,k _ _ (.inr d) j,c},r}
 | own y=>obtain⟨b,e⟩:=x;exact{b,k _ _ (.inl rfl) e}
 | xd n=>obtain⟨mA,⟨i,es,f,e,c⟩,r⟩:=x;exact{mA,{i,es,f,k _ _ (.inl rfl) e,c},r}
 | rng f d=>obtain⟨t,u,v,e⟩:=x;exact{t,u,v,k _ _ (.inl rfl) e}
 | frz b u ih=>obtain⟨e,q⟩:=x;exact{k _ _ (.inl rfl) e,ih q}
 | tbl b=>
   have e:h.get? a=some { cls:=.none,data:=.fields b }:=x;show h'.get? a=some { cls:=.none,data:=.fields b };exact k a _ (.inl rfl) e
 | met f y=>
   have e:h.get? a=some (PySem.W.methodObj (.ref f) (.ref y)):=x;show h'.get? a=some (PySem.W.methodObj (.ref f) (.ref y));exact k a _ (.inl rfl) e
 | ext φ=>obtain⟨p,⟨o,e⟩,a⟩:=x;exact{a _ _ p λo q=>k _ _ (.inl rfl) q,{o,k _ _ (.inl rfl) e},a}
def Bd.lt(x:Bd P w H h)(e:H a=some o):a<h.objs.size:=(x a o e).lt
theorem Bd.fresh(x:Bd P w H h)(e:h.objs.size<=a):H a=none:=by
 cases q:H a with
 | none=>rfl
 | some u=>exact absurd (AW (x.lt q) e) (Dj _)
def Bd.kept(x:Bd P w H h)(k:∀b u,h.get? b=some u->h'.get? b=some u):Bd P w H h':=λa o e=>
 (x a o e).stay (λb u _ q=>k b u q) (λ_ q=>q) λ_ _ q=>q
def Bd.laid(x:Bd P w H h)(k:∀b u,h.get? b=some u->h'.get? b=some u)(g:h.objs.size<=a)(c:Bb P w (Ad H a o) h' a o):Bd P w (Ad H a o) h':=λb u e=>by
 have f:=x.fresh g;by_cases d:b=a
 ·subst d;rw[aq] at e;cases e;exact c
 ·rw[af d] at e
  exact(x b u e).stay (λc v _ q=>k c v q) (λc q=>by rw[af (au q f)];exact q) λc a q=>by rw[af (au q f)];exact q
instance Rd(H:Hp)(a:Addr)(u:HO):Prop:=H a=some u\/∃o,H a=some (.frz o u)
def Rd.of{H:Hp}{a:Addr}{u:HO}(h:H a=some u):Rd H a u:=.inl h
def Rd.ok(r:Rd H a u)(x:Bd P w H h):Bb P w H h a u:=by
 rcases r with r | ⟨o,r⟩
 ·exact x a u r
 ·obtain⟨_,q⟩:=x a _ r
  exact q
instance Mut:Option HO->Prop
 | some (.lst _)=>True
 | some (.dK _)=>True
 | some (.dT _)=>True
 | some (.set _ _)=>True
 | some (.ins _ _ _)=>True
 | some (.ext _)=>True
 | _=>False
def Bd.write(m:Bd P w H h)(a:Mut (H x))(l:e=x\/H e=some (.own x))(k:∀b u,b≠e->h.get? b=some u->h'.get? b=some u)(i:∃u,h'.get? e=some u)(j:Bb P w (Ad H x o') h' x o'):Bd P w (Ad H x o') h':=λb u q=>by
 have d:∀c y,H c=some (.own y)->c≠x:=λc y r z=>by subst z;rw[r] at a;exact a
 have f:∀c h,H c=some (.tup h)->c≠x:=λc h r z=>by subst z;rw[r] at a;exact a
 by_cases g:b=x
 ·subst g;rw[aq] at q;cases q;exact j
 ·rw[af g] at q
  by_cases a:b=e
  ·have j:H b=some (.own x):=by
    rcases l with z | z
    ·exact absurd (a.trans z) g
    ·rw[a];exact z
   rw[q] at j;cases j;obtain⟨v,e⟩:=i;exact{v,by rw[a];exact e}
  ·refine(m b u q).stay (λc v e r=>k c v ?_ r) (λc r=>by rw[af (d c b r)];exact r) λc h r=>by rw[af (f c h r)];exact r
   rcases e with rfl | e
   ·exact a
   ·rintro rfl
    rcases l with z | z
    ·exact d c b e z
    ·rw[e] at z;cases z;exact g rfl
structure Un(fs ex:List Addr)(H H':Hp)(h h':Heap):Prop where
 keep:∀b o,h.get? b=some o->H b=none->b∉fs->b∉ex->h'.get? b=some o
 slot:∀b o,h.get? b=some o->H b=none->b∈fs->b∉ex->∃sl,h'.get? b=some { o with slots:=sl }
 free:∀b o,h.get? b=some o->H b=none->b∉ex->H' b=none
 there:∀b o,h.get? b=some o->b∉ex->∃o',h'.get? b=some o'
 tups:∀b xs,H b=some (.tup xs)->H' b=some (.tup xs)
 frzs:∀b o u,H b=some (.frz o u)->H' b=some (.frz o u)
 tbls:∀b ps,H b=some (.tbl ps)->∃more,H' b=some (.tbl (ps++more))
def Un.any(u:Un fs ex H H1 h h1){b:Addr}{a:Obj}(q:h.get? b=some a)(n:H b=none)(c:b∉ex):∃e,h1.get? b=some { a with slots:=e }:=by
 by_cases d:b∈fs
 ·exact u.slot b a q n d c
 ·exact{a.slots,u.keep b a q n d c}
def Un.kept(k:∀b u,h.get? b=some u->h'.get? b=some u):Un fs ex H H h h':=
 {λb a q _ _ _=>k b a q,λb a q _ _ _=>{a.slots,k b a q},λ_ _ _ n _=>n,λb a q _=>{a,k b a q},λ_ _ q=>q,λ_ _ _ q=>q,λ_ a q=>{#[],by rw[q];simp}}
def Un.refl:Un fs ex H H h h:=Un.kept λ_ _ q=>q
def Un.laid(k:∀b u,h.get? b=some u->h'.get? b=some u)(d:h.objs.size<=a)(c:H a=none):Un fs ex H (Ad H a o) h h' where
 keep:=λb u q _ _ _=>k b u q
 slot:=λb u q _ _ _=>{u.slots,k b u q}
 free:=λb u q n _=>by rw[af (Bk (AW (Heap.lt_size q) d))];exact n
 there:=λb u q _=>{u,k b u q}
 tups:=λb a q=>by rw[af (au q c)];exact q
 frzs:=λb u a q=>by rw[af (au q c)];exact q
 tbls:=λb a q=>{#[],by rw[af (au q c),q];simp}
def Un.write(a:Mut (H x))(c:e=x\/H e=some (.own x))(k:∀b u,b≠e->h.get? b=some u->h'.get? b=some u)(d:∃u,h'.get? e=some u):Un fs ex H (Ad H x o) h h':=by
 have f:∀b,H b=none->b≠x:=λb n z=>by subst z;rw[n] at a;exact a
 have g:∀b,H b=none->b≠e:=λb n z=>by
  subst z;rcases c with r | r
  ·exact f b n r
  ·rw[n] at r;cases r
 have c:∀b u,H b=some u->¬Mut (some u)->b≠x:=λb u q h z=>by subst z;rw[q] at a;exact h a
 refine{λb u q n _ _=>k b u (g b n) q,λb u q n _ _=>{u.slots,k b u (g b n) q},λb u q n _=>by rw[af (f b n)];exact n,λb u q _=>?_,
  λb a q=>by rw[af (c b _ q λz=>z)];exact q,λb u a q=>by rw[af (c b _ q λz=>z)];exact q,λb a q=>{#[],by rw[af (c b _ q λz=>z),q];simp}}
 by_cases a:b=e
 ·subst a;exact d
 ·exact{u,k b u a q}
instance trk(h:Heap)(H:Hp):List Addr:=(List.range h.objs.size).filter λa=>(H a).isSome
def EX(h:Heap)(H:Hp):Heap:=PySem.W.hideAll h (trk h H)
def m4(h:Heap)(H:Hp):(EX h H).objs.size=h.objs.size:=PySem.W.hideAll_size _ _
def m5(e:h.get? b=some o)(n:H b=none):(EX h H).get? b=some o:=
 PySem.W.hideAll_get _ e λa=>by
  have q:(H b).isSome=true:=(List.mem_filter.mp a).2;rw[n] at q;simp at q
def m6(e:(EX h H).get? b=some o):h.get? b=some o/\H b=none:=by
 have e':h.get? b=some o:=PySem.W.of_hideAll (trk h H) e;refine{e',?_};cases q:H b with
 | none=>rfl
 | some x=>
   have a:b∈trk h H:=List.mem_filter.mpr {EF.mpr (Heap.lt_size e'),by simp[q]};have z:(EX h H).get? b=none:=PySem.W.hideAll_none (trk h H) a;rw[z] at e;cases e
structure Mod(K:FG)(mg:Str->Option Value)(base:Heap):Prop where
 kin:K.In base
 glob:base.Ns mainGlobals mg
 blt:∃mb,base.Ns builtinsNs mb/\∀x:Str,x≠"__name__"->mb x=bootBuiltins x
 nolimit:base.NoLimit
structure Cx where
 prog:Program
 w:World
 K:FG
 mg:Str->Option Value
 base:Heap
 A:Around
 N:List Str
 s₀:Shared
 H₀:Hp
 env:Env
 outer:List Env
 stack:List Env
 ex:List Addr
 fn:Str->Bool
 calm:Bool
 pn:List 'p'
 xe:Value->Shared->Prop
def EH(l:List Env):List Addr:=l.filterMap (·.frame)
abbrev Cx.fs(X:Cx):List Addr:=EH X.outer
instance Vis(sc:Scope)(x:Str):Prop:=sc.names.lookup x=some .local\/sc.names.lookup x=some .cell\/sc.names.lookup x=some .free
instance Loc(sc:Scope)(x:Str):Prop:=sc.names.lookup x=some .local\/sc.names.lookup x=some .cell
def J1(env:Env)(h:Heap)(m:Str->Option Value)(x:Str)(u:Value):Prop:=
 (env.kindOf x=some .local/\m x=some u)\/((env.kindOf x=some .cell\/env.kindOf x=some .free)/\∃c,env.cells.lookup x=some c/\h.IsCell c (some u))
structure Cx.Ok(X:Cx):Prop where
 mod:Mod X.K X.mg X.base
 kind:X.env.scope.kind=.function
 glob:X.env.globals=mainGlobals
 blt:X.env.builtins=builtinsNs
 above:X.s₀.heap.objs.size<=X.env.locals
 inj:∀x y c,X.env.cells.lookup x=some c->X.env.cells.lookup y=some c->x=y
 has:∀x,(X.env.kindOf x=some .cell\/X.env.kindOf x=some .free)->∃c,X.env.cells.lookup x=some c
 cab:∀x c,X.fn x=true->X.env.cells.lookup x=some c->X.s₀.heap.objs.size<=c
 hd:X.calm=true->X.A.handled=none
 frames:X.A.frames=some X.stack
 stk:X.stack=X.outer\/(X.stack=X.env::X.outer/\X.env.frame=some X.env.locals)
 exf:∀b∈X.ex,b≠X.env.locals/\∀x c,X.env.cells.lookup x=some c->c≠b
 bs:∀b o,X.base.get? b=some o->X.s₀.heap.get? b=some o/\X.H₀ b=none
 bsz:X.base.objs.size<=X.s₀.heap.objs.size
 noex:∀b o,X.base.get? b=some o->b∉X.ex
 exfs:∀b∈X.ex,b∉X.fs
 funs:X.s₀.heap.FunFrames X.base X.outer
 frf:∀b∈X.fs,X.H₀ b=none
structure Ab(X:Cx)(A3:List 'p')(Y:List (Option V))(H:Hp)(s:Shared):Prop where
 ok:X.Ok
 os:s.os=X.s₀.os
 bare:AllBare s.gens
 base:Un X.fs X.ex X.H₀ H X.s₀.heap s.heap
 loc:∃m,s.heap.Ns X.env.locals m/\∀(i:Nat) (x:Str) (v:V),X.N[i]?=some x->Y[i]?=some (some v)->Vis X.env.scope x->∃u,Aj v u/\J1 X.env s.heap m x u
 cell:∀x c,X.env.cells.lookup x=some c->∃v,s.heap.IsCell c v
 free:H X.env.locals=none
 freeC:∀x c,X.env.cells.lookup x=some c->H c=none
 pin:∀p∈X.pn++A3,s.heap.get? p.1=some p.2/\H p.1=none/\p.1≠X.env.locals/\p.1∉X.fs/\∀v,p.2.data≠.cell v
 hok:Bd X.prog X.w H s.heap
 len:Y.length=X.N.length
section
variable{X:Cx}{A3:List 'p'}{Y:List (Option V)}{H H':Hp}{s:Shared}{h':Heap}
def Cx.Ok.nofr(a:X.Ok)(e:X.base.get? b=some o):b∉X.fs:=λc=>by
 have:=(a.funs.mem c).1;rw[e] at this;cases this
def Ab.bs(I:Ab X A3 Y H s):∀b o,X.base.get? b=some o->s.heap.get? b=some o/\H b=none:=λb o e=>
 {I.base.keep b o (I.ok.bs b o e).1 (I.ok.bs b o e).2 (I.ok.nofr e) (I.ok.noex b o e),I.base.free b o (I.ok.bs b o e).1 (I.ok.bs b o e).2 (I.ok.noex b o e)}
def Ab.bk(I:Ab X A3 Y H s):∀b o,X.base.get? b=some o->s.heap.get? b=some o:=λb o e=>(I.bs b o e).1
def Ab.mod(I:Ab X A3 Y H s):Mod X.K X.mg X.base:=I.ok.mod
def Ab.kIn(I:Ab X A3 Y H s):X.K.In s.heap:=I.ok.mod.kin.keeps I.bk
def Ab.lt(I:Ab X A3 Y H s):X.env.locals<s.heap.objs.size:=let ⟨_,a,_⟩:=I.loc;a.lt
def Ab.sz(I:Ab X A3 Y H s):X.s₀.heap.objs.size<=s.heap.objs.size:=Az I.ok.above (BC I.lt)
def Ab.nofs(I:Ab X A3 Y H s)(h:s.heap.objs.size<=a):a∉X.fs:=λb=>by
 obtain⟨_,o,a,_⟩:=I.ok.funs.mem b;exact absurd (AW (Heap.lt_size a) (Az I.sz h)) (Dj _)
def Ab.cne(I:Ab X A3 Y H s):∀x c,X.env.cells.lookup x=some c->c≠X.env.locals:=λx c e z=>by
 obtain⟨v,o,f,d⟩:=I.cell x c e;obtain⟨m,⟨o',es,g,b,a,_⟩,_⟩:=I.loc;rw[z,b] at f;cases f;rw[a] at d;cases d
def Ab.funs(I:Ab X A3 Y H s):s.heap.FunFrames X.base X.outer:=by
 have f:∀(l:List Env),(∀b∈EH l,b∈X.fs)->X.s₀.heap.FunFrames X.base l->s.heap.FunFrames X.base l:=by
  intro l;induction l with
  | nil=>intro _ _;trivial
  | cons env r ih=>
    intro g e;obtain⟨h,⟨a,o,d,i,j,l⟩,m⟩:=e;have c:a∈X.fs:=g a (by unfold EH;rw[List.filterMap_cons,d];exact EW);obtain⟨n,e⟩:=I.base.slot a o j (I.ok.frf a c) c λz=>I.ok.exfs a z c
    exact{h,{a,_,d,i,e,l},ih (λb a=>g b (by unfold EH;rw[List.filterMap_cons,d];exact EA _ a)) m}
 exact f X.outer (λ_ a=>a) I.ok.funs
def Ab.stack(I:Ab X A3 Y H s):s.heap.FunFrames X.base X.stack:=by
 rcases I.ok.stk with e | ⟨e,b⟩
 ·rw[e];exact I.funs
 ·rw[e]
  obtain⟨m,a,_⟩:=I.loc;refine .cons (by rw[I.ok.kind];decide) b a ?_ I.funs;exact Heap.get?_none_of_le (Az I.ok.bsz I.ok.above)
def Ab.stkSub(I:Ab X A3 Y H s):∀b∈EH X.stack,b∈X.env.locals::X.fs:=λb a=>by
 rcases I.ok.stk with e | ⟨e,b⟩
 ·rw[e] at a;exact EA _ a
 ·rw[e] at a
  unfold EH at a;rw[List.filterMap_cons,b] at a;exact a
def Ab.stkFree(I:Ab X A3 Y H s):∀b∈EH X.stack,H b=none:=λb a=>by
 rcases AK.mp (I.stkSub b a) with e | a
 ·rw[e];exact I.free
 ·obtain⟨_,o,c,_⟩:=I.ok.funs.mem a
  exact I.base.free b o c (I.ok.frf b a) λz=>I.ok.exfs b z a
def Ab.step{g':Array GenState}{t':Nat}{d':Drawn}{ch:List Addr}(I:Ab X A3 Y H s)(h:∀b∈ch,(b∈X.ex\/X.s₀.heap.objs.size<=b)/\b≠X.env.locals/\(∀x c,X.env.cells.lookup x=some c->c≠b)/\∀p∈X.pn++A3,p.1≠b)(g:∀b o,b≠X.env.locals->b∉X.fs->b∉ch->s.heap.get? b=some o->H b=none->h'.get? b=some o)(l:∀b o,b≠X.env.locals->b∈X.fs->b∉ch->s.heap.get? b=some o->H b=none->∃O,h'.get? b=some { o with slots:=O })(f:∀b o,b∉ch->s.heap.get? b=some o->H b=none->H' b=none)(A:∀b o,b∉ch->s.heap.get? b=some o->∃o',h'.get? b=some o')(J:∀b y,H b=some (.tup y)->H' b=some (.tup y))(C:∀b o u,H b=some (.frz o u)->H' b=some (.frz o u))(E:∀b M,H b=some (.tbl M)->∃a,H' b=some (.tbl (M++a)))(ns:∀m,s.heap.Ns X.env.locals m->h'.Ns X.env.locals m)(N:Bd X.prog X.w H' h')(Q:AllBare g') :
 Ab X A3 Y H' { s with heap:=h',gens:=g',drawn:=d',toks:=t' }:=by
 have G:∀b o,X.s₀.heap.get? b=some o->b≠X.env.locals:=λb o e=>Bk (AW (Heap.lt_size e) I.ok.above)
 have i:∀b o,X.s₀.heap.get? b=some o->b∉X.ex->b∉ch:=λb o e a r=>by
  rcases (h b r).1 with z | z
  ·exact a z
  ·exact absurd (AW (Heap.lt_size e) z) (Dj _)
 have d:∀x c,X.env.cells.lookup x=some c->∀v,s.heap.IsCell c v->h'.IsCell c v:=λx c e v hI1=>by
  obtain⟨o,B,P⟩:=hI1;have j:c∉ch:=λz=>(h c z).2.2.1 x c e rfl
  by_cases n:c∈X.fs
  ·obtain⟨O,q⟩:=l c o (I.cne x c e) n j B (I.freeC x c e)
   exact{_,q,P}
  ·exact{o,g c o (I.cne x c e) n j B (I.freeC x c e),P}
 refine{I.ok,I.os,Q,{λb o e n r a=>?_,λb o e n r a=>?_,λb o e n a=>?_,λb o e a=>?_,λb y e=>J b y (I.base.tups b y e),λb o y e=>C b o y (I.base.frzs b o y e),λb M e=>?_},?_,λx c e=>?_,?_,λx c e=>?_,λp Q=>?_,N,I.len}
 ·exact g b o (G b o e) r (i b o e a) (I.base.keep b o e n r a) (I.base.free b o e n a)
 ·obtain⟨O,q⟩:=I.base.slot b o e n r a
  obtain⟨J,C⟩:=l b _ (G b o e) r (i b o e a) q (I.base.free b o e n a);exact⟨J,C⟩
 ·obtain⟨o',q⟩:=I.base.there b o e a
  exact f b o' (i b o e a) q (I.base.free b o e n a)
 ·obtain⟨o',q⟩:=I.base.there b o e a
  exact A b o' (i b o e a) q
 ·obtain⟨i,q⟩:=I.base.tbls b M e
  obtain⟨a,C⟩:=E b _ q;exact{i++a,by rw[C,Array.append_assoc]}
 ·obtain⟨m,a,b⟩:=I.loc
  refine{m,ns m a,λi x v q C A=>?_};obtain⟨u,r,l⟩:=b i x v q C A;refine{u,r,?_};rcases l with l | ⟨k,c,e,z⟩
  ·exact .inl l
  ·exact .inr {k,c,e,d x c e _ z}
 ·obtain⟨v,z⟩:=I.cell x c e
  exact{v,d x c e v z}
 ·obtain⟨m,⟨o,_,_,B,_⟩,_⟩:=I.loc
  exact f _ o (λz=>(h _ z).2.1 rfl) B I.free
 ·obtain⟨v,o,B,P⟩:=I.cell x c e
  exact f c o (λz=>(h c z).2.2.1 x c e rfl) B (I.freeC x c e)
 ·obtain⟨e,n,a,nf,d⟩:=I.pin p Q
  have j:p.1∉ch:=λz=>(h p.1 z).2.2.2 p Q rfl
  exact{g p.1 p.2 a nf j e n,f p.1 p.2 j e n,a,nf,d}
def Ab.un{t':Nat}(I:Ab X A3 Y H s)(u:Un X.fs [] H H' s.heap h')(d:Bd X.prog X.w H' h'):Ab X A3 Y H' { s with heap:=h',toks:=t' }:=by
 obtain⟨m,⟨o,es,a,f,r⟩,_⟩:=id I.loc;obtain⟨a,g⟩:=u.any f I.free 'd';exact I.step (g':=s.gens) (d':=s.drawn) (ch:=[]) (λ_ z=>nomatch z) (λb o _ a _ e n=>u.keep b o e n a 'd') (λb o _ a _ e n=>u.slot b o e n a 'd') (λb o _ e n=>u.free b o e n 'd') (λb o _ e=>u.there b o e 'd') u.tups u.frzs u.tbls (λm' e=>by
  obtain⟨o',b,c,a,r'⟩:=e;rw[f] at a;cases a;exact{_,b,c,g,r'}) d I.bare
def Ab.call{g':Array GenState}{t':Nat}{d':Drawn}{ch:List Addr}(I:Ab X A3 Y H s)(u:Un (EH X.stack) ch H H' s.heap h')(g:Bd X.prog X.w H' h')(i:AllBare g')(d:∀b∈ch,(b∈X.ex\/X.s₀.heap.objs.size<=b)/\b≠X.env.locals/\(∀x c,X.env.cells.lookup x=some c->c≠b)/\∀p∈X.pn++A3,p.1≠b) :
 Ab X A3 Y H' { s with heap:=h',gens:=g',drawn:=d',toks:=t' }:=by
 obtain⟨m,⟨o,es,a,h,r⟩,_⟩:=id I.loc;obtain⟨a,f⟩:=u.any h I.free λz=>(d _ z).2.1 rfl
 exact I.step (ch:=ch) d (λb o f c a e n=>u.keep b o e n (λz=>(AK.mp (I.stkSub b z)).elim f c) a) (λb o _ _ a e n=>u.any e n a) (λb o a e n=>u.free b o e n a) (λb o a e=>u.there b o e a) u.tups u.frzs u.tbls (λm' d=>by
  obtain⟨o',b,c,a,r'⟩:=d;rw[h] at a;cases a;exact{_,b,c,f,r'}) g i
def Ab.turned{t':Nat}{a:Addr}(I:Ab X A3 Y H s)(k:∀b o,b≠a->s.heap.get? b=some o->h'.get? b=some o)(d:H a=none)(g:a≠X.env.locals)(i:a∈X.ex\/X.s₀.heap.objs.size<=a)(j:∀x c,X.env.cells.lookup x=some c->c≠a)(h:∀p∈X.pn++A3,p.1≠a):Ab X A3 Y H { s with heap:=h',toks:=t' }:=by
 have f:∀b u,H b=some u->b≠a:=λb u e z=>by rw[z,d] at e;cases e
 refine I.step (g':=s.gens) (d':=s.drawn) (ch:=[a]) (λb p=>?_) (λb o _ _ d e _=>k b o (λz=>d (by simp[z])) e) (λb o _ _ d e _=>{o.slots,k b o (λz=>d (by simp[z])) e}) (λ_ _ _ _ n=>n)
  (λb o d e=>{o,k b o (λz=>d (by simp[z])) e}) (λ_ _ e=>e) (λ_ _ _ e=>e) (λb l e=>{#[],by rw[e];simp}) (λm l=>?_) (λb u e=>?_) I.bare
 ·have e:b=a:=by simpa using p
  subst e;exact⟨i,g,j,h⟩
 ·obtain⟨o,es,a,i,r⟩:=l
  exact{o,es,a,k _ o (Ne.symm g) i,r}
 ·refine(I.hok b u e).stay (λc v d q=>k c v ?_ q) (λ_ q=>q) λ_ _ q=>q
  rcases d with z | z
  ·rw[z];exact f b u e
  ·exact f c _ z
def Ab.tok(I:Ab X A3 Y H s)(t:Nat):Ab X A3 Y H { s with toks:=t }:=I.un (h':=s.heap) (t':=t) Un.refl I.hok
def Ab.kept{t':Nat}(I:Ab X A3 Y H s)(k:∀b u,s.heap.get? b=some u->h'.get? b=some u):Ab X A3 Y H { s with heap:=h',toks:=t' }:=I.un (Un.kept k) (I.hok.kept k)
def Ab.laid{a:Addr}{o:HO}{t':Nat}(I:Ab X A3 Y H s)(k:∀b u,s.heap.get? b=some u->h'.get? b=some u)(c:s.heap.objs.size<=a)(b:Bb X.prog X.w (Ad H a o) h' a o) :
 Ab X A3 Y (Ad H a o) { s with heap:=h',toks:=t' }:=I.un (Un.laid k c (I.hok.fresh c)) (I.hok.laid k c b)
def Ab.write{t':Nat}(I:Ab X A3 Y H s)(c:Mut (H x))(d:e=x\/H e=some (.own x))(k:∀b u,b≠e->s.heap.get? b=some u->h'.get? b=some u)(a:∃u,h'.get? e=some u)(b:Bb X.prog X.w (Ad H x o) h' x o):Ab X A3 Y (Ad H x o) { s with heap:=h',toks:=t' }:=I.un (Un.write c d k a) (I.hok.write c d k a b)
def Ab.pins_of(I:Ab X A3 Y H s)(h:∀p∈pins',s.heap.get? p.1=some p.2/\H p.1=none/\p.1≠X.env.locals/\p.1∉X.fs/\∀v,p.2.data≠.cell v):Ab X pins' Y H s:=
 {I.ok,I.os,I.bare,I.base,I.loc,I.cell,I.free,I.freeC,λp a=>(BP.mp a).elim (λz=>I.pin p (E8 _ z)) (h p),I.hok,I.len}
def iq{N:List Str}(c:N.Nodup){i j:Nat}{x:Str}(a:N[i]?=some x)(b:N[j]?=some x):i=j:=by
 obtain⟨e,d⟩:=AZ.mp a;obtain⟨f,e⟩:=AZ.mp b;exact(List.getElem_inj c).mp (d.trans e.symm)
def iw{M:Model}{A:Around}{E:Value->Shared->Prop}{i:Nat}{x:Str}{v:V}{u:Value}{Q:Unit->Shared->Prop}(I:Ab X A3 Y H s)(hN:X.N.Nodup)(N:X.N[i]?=some x)(B:Loc X.env.scope x)(r:Aj v u)(h:∀s',Ab X A3 (Y.set i (some v)) H s'->(∃a,Heap.SameBut a s.heap s'.heap/\(a=X.env.locals\/X.env.cells.lookup x=some a))->Q () s')(O:X.fn x=true\/X.env.scope.names.lookup x=some .local:=by first | exact .inl rfl | exact .inr rfl | assumption):wpAny M A (storeName X.env x u) Q E s:=by
 obtain⟨m,T,hl⟩:=id I.loc;have d:(X.env.scope.kind == .class||(X.env.scope.kind == .module&&X.env.locals != X.env.globals))=false:=by rw[I.ok.kind];rfl
 have A:i<Y.length:=by rw[I.len];exact(AZ.mp N).1
 have G:=I.cne;have g:∀{a:Addr} {h':Heap},(∃o,s.heap.get? a=some o/\H a=none)->Heap.SameBut a s.heap h'->Bd X.prog X.w H h':=λ{a h'} c f b j e=>by
  obtain⟨_,_,a⟩:=c;refine(I.hok b j e).stay (λc w' l q=>(f.2 c ?_).trans q) (λ_ q=>q) λ_ _ q=>q
  rintro rfl;rcases l with rfl | l
  ·rw[a] at e;cases e
  ·rw[a] at l;cases l
 rcases B with C | C
 ·refine wpAny_storeName_local C T (λh' p f=>?_) d
  obtain⟨E,_,_,z,_⟩:=id T;refine h _ {I.ok,I.os,I.bare,{λb o e n M B=>?_,λb o e n M B=>?_,I.base.free,λb o e B=>?_,I.base.tups,I.base.frzs,I.base.tbls},{_,p,λj y v' a v Z=>?_},λy c e=>?_,I.free,I.freeC,λp U=>?_,g ⟨E,z,I.free⟩ f,by simpa using I.len} {_,f,.inl rfl}
  ·exact(f.2 b (Bk (AW (Heap.lt_size e) I.ok.above))).trans (I.base.keep b o e n M B)
  ·obtain⟨W,a⟩:=I.base.slot b o e n M B
   exact{W,(f.2 b (Bk (AW (Heap.lt_size e) I.ok.above))).trans a}
  ·obtain⟨o',a⟩:=I.base.there b o e B
   exact{o',(f.2 b (Bk (AW (Heap.lt_size e) I.ok.above))).trans a}
  ·by_cases E:j=i
   ·subst E
    rw[N] at a;cases a;rw[Gx A] at v;cases v;exact{u,r,.inl {C,'d'}}
   ·rw[Ci (Ne.symm E)] at v
    obtain⟨u',r',q⟩:=hl j y v' a v Z;refine{u',r',?_};rcases q with⟨k,e⟩ | ⟨k,c,e,z⟩
    ·refine .inl {k,?_}
     have:y≠x:=λe=>E (iq hN a (e▸N))
     simp[this,e]
    ·exact .inr {k,c,e,z.sameBut f (G y c e)}
  ·obtain⟨w',z⟩:=I.cell y c e
   exact{w',z.sameBut f (G y c e)}
  ·obtain⟨e,n,R,nf,d⟩:=I.pin p U
   exact{(f.2 p.1 R).trans e,n,R,nf,d}
 ·have J:X.fn x=true:=by
   rcases O with z | z
   ·exact z
   ·rw[z] at C;cases C
  obtain⟨c,l⟩:=I.ok.has x (.inl C);obtain⟨w',z⟩:=I.cell x c l;refine wpAny_storeName_cell I.ok.kind C l z (λh' O f=>?_);obtain⟨oc,Q,P⟩:=id z;refine h { s with heap:=h' } {I.ok,I.os,I.bare,{λb o e n M B=>?_,λb o e n M B=>?_,I.base.free,λb o e B=>?_,I.base.tups,I.base.frzs,I.base.tbls},{m,T.sameBut f (Ne.symm (G x c l)),λj y v' a v Z=>?_},λy h e=>?_,I.free,I.freeC,λp U=>?_,g {oc,Q,I.freeC x c l} f,by simpa using I.len} {c,f,.inr l}
  ·exact(f.2 b (Bk (AW (Heap.lt_size e) (I.ok.cab x c J l)))).trans (I.base.keep b o e n M B)
  ·obtain⟨W,a⟩:=I.base.slot b o e n M B
   exact{W,(f.2 b (Bk (AW (Heap.lt_size e) (I.ok.cab x c J l)))).trans a}
  ·obtain⟨o',a⟩:=I.base.there b o e B
   exact{o',(f.2 b (Bk (AW (Heap.lt_size e) (I.ok.cab x c J l)))).trans a}
  ·by_cases E:j=i
   ·subst E
    rw[N] at a;cases a;rw[Gx A] at v;cases v;exact{u,r,.inr {.inl C,c,l,O}}
   ·rw[Ci (Ne.symm E)] at v
    obtain⟨u',r',q⟩:=hl j y v' a v Z;refine{u',r',?_};rcases q with q | ⟨k,h,e,z'⟩
    ·exact .inl q
    ·refine .inr {k,h,e,z'.sameBut f ?_}
     rintro rfl;exact E (iq hN a (I.ok.inj _ _ _ e l▸N))
  ·by_cases a:h=c
   ·subst a;exact{_,O}
   ·obtain⟨b,c⟩:=I.cell y h e
    exact{b,c.sameBut f a}
  ·obtain⟨e,n,R,nf,d⟩:=I.pin p U
   refine{(f.2 p.1 ?_).trans e,n,R,nf,d};intro q;rw[q,Q] at e;have a:oc=p.2:=Option.some.inj e;exact d w' (by rw[<-a];exact P)
def bQ{M:Model}{A:Around}{E:Value->Shared->Prop}{i:Nat}{x:Str}{v:V}{u:Value}{Q:Unit->Shared->Prop}(I:Ab X A3 Y H s)(a:X.N.Nodup)(e:X.N[i]?=some x)(b:Loc X.env.scope x)(r:Aj v u)(h:∀s',Ab X A3 (Y.set i (some v)) H s'->Q () s')(c:X.fn x=true\/X.env.scope.names.lookup x=some .local:=by first | exact .inl rfl | exact .inr rfl | assumption):wpAny M A (storeName X.env x u) Q E s:=
 iw I a e b r (λs' d _=>h s' d) c
def Ab.call'(I:Ab X A3 Y H s)(g:s'.os=s.os)(u:Un (EH X.stack) ch H H' s.heap s'.heap)(a:Bd X.prog X.w H' s'.heap)(f:AllBare s'.gens)(d:∀b∈ch,(b∈X.ex\/X.s₀.heap.objs.size<=b)/\b≠X.env.locals/\(∀x c,X.env.cells.lookup x=some c->c≠b)/\∀p∈X.pn++A3,p.1≠b):Ab X A3 Y H' s':=by
 obtain⟨h',g',d',t',o'⟩:=s';have e:o'=s.os:=g;subst e;exact I.call (g':=g') (t':=t') (d':=d') u a f d
end
abbrev XK:=Value->Option Addr->Hp->Prop
abbrev St:=List (Option V)
abbrev VK:=V->Hp->Prop
abbrev TE:=St->Hp->VK->Prop
abbrev TT:=St->Hp->(Bool->Hp->Prop)->Prop
abbrev TA:=St->Hp->(List V->Hp->Prop)->Prop
structure Dp where
 nx:St->Hp->Prop
 rt:VK
 bk:St->Hp->Prop:=λ_ _=>False
 ct:St->Hp->Prop:=λ_ _=>False
abbrev TS:=Dp->St->Hp->Prop
instance EP(X:Cx)(A3:List 'p')(Y:St)(Q:VK)(u:Value)(s':Shared):Prop:=∃v H',Ab X A3 Y H' s'/\Aj v u/\Q v H'
instance TP(X:Cx)(A3:List 'p')(Y:St)(Q:Bool->Hp->Prop)(b:Bool)(s':Shared):Prop:=∃H',Ab X A3 Y H' s'/\Q b H'
instance AP(X:Cx)(A3:List 'p')(Y:St)(Q:List V->Hp->Prop)(us:List Value)(s':Shared):Prop:=∃vs H',Ab X A3 Y H' s'/\Aq vs us/\Q vs H'
open H in
instance SP(X:Cx)(A3:List 'p')(D:Dp)(f:Flow)(s':Shared):Prop:=
 match f with
 | .next=>∃Y' H',Ab X A3 Y' H' s'/\D.nx Y' H'
 | .brk=>∃Y' H',Ab X A3 Y' H' s'/\D.bk Y' H'
 | .cont=>∃Y' H',Ab X A3 Y' H' s'/\D.ct Y' H'
 | .ret u=>∃v Y' H',Ab X A3 Y' H' s'/\Aj v u/\D.rt v H'
instance PE(X:Cx)(e:Expr)(t:TE):Prop:=
 ∀(A3:List 'p') (s:Shared) (Y:St) (H:Hp) (Q:VK),Ab X A3 Y H s->t Y H Q->wpAny 'e' X.A (eval e X.env) (EP X A3 Y Q) X.xe s
instance PT(X:Cx)(e:Expr)(t:TT):Prop:=
 ∀(A3:List 'p') (s:Shared) (Y:St) (H:Hp) (Q:Bool->Hp->Prop),Ab X A3 Y H s->t Y H Q->wpAny 'e' X.A (isTrue e X.env (eval e X.env)) (TP X A3 Y Q) X.xe s
instance PW(X:Cx)(e:Expr)(t:TT):Prop:=
 ∀(whole:Sem Value) (A3:List 'p') (s:Shared) (Y:St) (H:Hp) (Q:Bool->Hp->Prop),Ab X A3 Y H s->t Y H Q->wpAny 'e' X.A (isTrue e X.env whole) (TP X A3 Y Q) X.xe s
def PW.pt{X:Cx}{e:Expr}{t:TT}(h:PW X e t):PT X e t:=h _
instance PA(X:Cx)(es:List Expr)(t:TA):Prop:=
 ∀(pos:Pos) (A3:List 'p') (s:Shared) (Y:St) (H:Hp) (Q:List V->Hp->Prop),Ab X A3 Y H s->t Y H Q->wpAny 'e' X.A (spliced (backTo pos (starEach es X.env))) (AP X A3 Y Q) X.xe s
instance PS(X:Cx)(st:Stmt)(t:TS):Prop:=
 ∀(A3:List 'p') (s:Shared) (Y:St) (H:Hp) (D:Dp),Ab X A3 Y H s->t D Y H->wpAny 'e' X.A (exec st X.env) (SP X A3 D) X.xe s
def CA(X:Cx)(st:List Stmt)(t:TS):Prop:=
 ∀(A3:List 'p') (s:Shared) (Y:St) (H:Hp) (D:Dp),Ab X A3 Y H s->t D Y H->wpAny 'e' X.A (execs st X.env) (SP X A3 D) X.xe s
def ai{α:Type}{t:Sem α}{Q b:α->Shared->Prop}{M:Model}{A:Around}{E:Value->Shared->Prop}{s:Shared}(h:wpAny M A t Q E s)(c:∀a s,Q a s->b a s):wpAny M A t b E s:=C4 h c λ_ _ x=>x
section
variable{X:Cx}
def Bx(i:Nat):TE:=λY H Q=>∃v,Y[i]?=some (some v)/\Q v H
instance tC(v:V):TE:=λ_ H Q=>Q v H
def m7{i:Nat}{x:Str}(a:X.N[i]?=some x)(j:Vis X.env.scope x)(d:autoParam 'u' uD)(f:autoParam ((x == ("__classdict__" : Str))=false) uD):PE X (.Name x pos) (Bx i):=by
 intro b s Y H Q I h;obtain⟨v,e,h⟩:=h;obtain⟨m,g,c⟩:=I.loc;obtain⟨u,r,l⟩:=c i x v a e j;have fin:EP X b Y Q u s:=⟨v,H,I,r,h⟩;rcases l with⟨b,i⟩ | ⟨b,c,e,a⟩
 ·exact wpAny_Name (wpAny_loadName_local I.ok.kind b g i fin) d
 ·rcases b with b | b
  ·exact wpAny_Name (wpAny_loadName_cell I.ok.kind b e a fin) d
  ·exact wpAny_Name (wpAny_loadName_free I.ok.kind b e a fin f) d
def aO{i j pos}:PE X (.Constant (.int i) j pos) (tC (.int i)):=λ_ _ _ H _ I h=>wpAny_Constant_int {.int i,H,I.tok _,{_,rfl},h}
def m8{b j pos}:PE X (.Constant (.bool b) j pos) (tC (.bl b)):=λ_ _ _ H _ I h=>Constant_bool {.bl b,H,I,rfl,h}
def m9{j pos}:PE X (.Constant .none j pos) (tC .non):=λ_ _ _ H _ I h=>Constant_none {.non,H,I,rfl,h}
def bH{x j pos}:PE X (.Constant (.str x) j pos) (tC (.str x)):=λ_ _ _ H _ I h=>Calls.Constant_str {.str x,H,I.tok _,{_,rfl},h}
instance Gl(X:Cx)(x:Str):Prop:=X.env.kindOf x=some .globalImplicit
def ix{E:Value->Shared->Prop}{d:List 'p'}{s:Shared}{Y:St}{H:Hp}{x:Str}{u:Value}{pos:Pos}{Q:Value->Shared->Prop}(I:Ab X d Y H s)(a:Gl X x)(c:X.mg x=some u)(h:Q u s)(b:autoParam 'u' uD):wpAny 'e' X.A (eval (.Name x pos) X.env) Q E s:=
 Calls.Name_function_global I.ok.kind a (Calls.loadGlobal_global (by rw[I.ok.glob];exact I.mod.glob.keeps I.bk) c h) b
def cc{E:Value->Shared->Prop}{a:List 'p'}{s:Shared}{Y:St}{H:Hp}{x:Str}{u:Value}{pos:Pos}{Q:Value->Shared->Prop}(I:Ab X a Y H s)(f:Gl X x)(g:X.mg x=none)(i:bootBuiltins x=some u)(h:Q u s)(c:autoParam (x≠"__name__") uD)(d:autoParam 'u' uD):wpAny 'e' X.A (eval (.Name x pos) X.env) Q E s:=by
 obtain⟨j,b,e⟩:=I.mod.blt;exact Calls.Name_function_global I.ok.kind f (Calls.loadGlobal_builtin (by rw[I.ok.glob];exact I.mod.glob.keeps I.bk) g (by rw[I.ok.blt];exact b.keeps I.bk) ((e x c).trans i) h) d
def iy{x:Str}(b:Gl X x)(c:X.mg x=some u)(r:Aj v u)(a:autoParam 'u' uD):PE X (.Name x pos) (tC v):=
 λ_ _ _ H _ I h=>ix I b c ⟨v,H,I,r,h⟩ a
def nc{x:Str}(c:Gl X x)(d:X.mg x=none)(e:bootBuiltins x=some u)(r:Aj v u)(b:autoParam (x≠"__name__") uD)(a:autoParam 'u' uD):PE X (.Name x pos) (tC v):=
 λ_ _ _ H _ I h=>cc I c d e ⟨v,H,I,r,h⟩ b a
variable{a b:Expr}{ta tb:TE}{pos:Pos}
instance PC(X:Cx)(op:CmpOp)(a b:Expr)(t:TE):Prop:=
 ∀(A3:List 'p') (s:Shared) (Y:St) (H:Hp) (Q:VK),Ab X A3 Y H s->t Y H Q->
  wpAny 'e' X.A (eval a X.env) (λv s₁=>wpAny 'e' X.A (eval b X.env) (λu s₂=>wpAny 'e' X.A (compareOp op v u) (EP X A3 Y Q) X.xe s₂) X.xe s₁) X.xe s
instance tB(t:TE):TT:=λY H Q=>t Y H λx H1=>∃c,x=.bl c/\Q c H1
def ng(h:PC X c a b t)(e:behindInMarks c b=false:=by first | exact nobehind _ 'z' 'z' | rfl):PE X (.Compare a [c] [b] pos) t:=λd s Y H Q I c=>wpAny_Compare1 (h d s Y H Q I c) e
def iz{c:CmpOp}{t:TE}(h:PC X c a b t)(d:behindInMarks c b=false:=by first | exact nobehind _ 'z' 'z' | rfl):PT X (.Compare a [c] [b] pos) (tB t):=by
 intro c s Y H Q I e;refine wpAny_isTrue_Compare1 (ai (h c s Y H _ I e) λv c d=>ai d λu g e=>ai e λc f hI62=>?_) d;obtain⟨x,H1,I1,c,e⟩:=hI62;obtain⟨d,rfl,q⟩:=e;cases c;exact D6 ⟨H1,I1,q⟩
def nh{e:Expr}{t:TE}(h:PE X e t)(f:∀c,isTrue e X.env c=(do let v <-c;standAt e.pos;holding [v] (truthy v)):=by intro _;rfl):PT X e (tB t):=by
 intro c s Y H Q I d;refine isTrue_plain (ai (h c s Y H _ I d) λv c hI63=>?_) (f _);obtain⟨x,H1,I1,c,e⟩:=hI63;obtain⟨d,rfl,q⟩:=e;cases c;exact D6 ⟨H1,I1,q⟩
variable{tA tB':TT}{rest:List Expr}
def J2(t u:TT):TT:=λY H Q=>t Y H λc H1=>if c=true then u Y H1 Q else Q false H1
instance tOr(t u:TT):TT:=λY H Q=>t Y H λc H1=>if c=true then Q true H1 else u Y H1 Q
def J3(t:TT):TT:=λY H Q=>t Y H λc H1=>Q (!c) H1
def pw_and1(c:PT X a tA):PW X (.BoolOp .And [a] pos) tA:=by
 intro e d s Y H Q I h;refine isTrue_and (ai (c d s Y H Q I h) λc d e=>?_);cases c with
 | true=>exact isTrue_and_nil e
 | false=>exact e
def pw_or1(c:PT X a tA):PW X (.BoolOp .Or [a] pos) tA:=by
 intro e d s Y H Q I h;refine isTrue_or (ai (c d s Y H Q I h) λc d e=>?_);cases c with
 | false=>exact isTrue_or_nil e
 | true=>exact e
def pw_and(c:PT X a tA)(i:PW X (.BoolOp .And (b::rest) pos) tB'):PW X (.BoolOp .And (a::b::rest) pos) (J2 tA tB'):=by
 intro f d s Y H Q I h;refine isTrue_and (ai (c d s Y H _ I h) λc g hI64=>?_);obtain⟨H1,I1,e⟩:=hI64;cases c with
 | true=>exact i f d g Y H1 Q I1 e
 | false=>exact⟨H1,I1,e⟩
def pw_or(c:PT X a tA)(i:PW X (.BoolOp .Or (b::rest) pos) tB'):PW X (.BoolOp .Or (a::b::rest) pos) (tOr tA tB'):=by
 intro f d s Y H Q I h;refine isTrue_or (ai (c d s Y H _ I h) λc g hI65=>?_);obtain⟨H1,I1,e⟩:=hI65;cases c with
 | true=>exact⟨H1,I1,e⟩
 | false=>exact i f d g Y H1 Q I1 e
def ni(d:PT X a tA):PT X (.UnaryOp .Not a pos) (J3 tA):=by
 intro e s Y H Q I h;exact isTrue_not (d e s Y H (λc H1=>Q (!c) H1) I h)
def J4(ta tb:TE):TE:=λY H Q=>ta Y H λx H1=>∃c,x=.bl c/\if c=true then tb Y H1 Q else Q (.bl false) H1
def J5(ta tb:TE):TE:=λY H Q=>ta Y H λx H1=>∃c,x=.bl c/\if c=true then Q (.bl true) H1 else tb Y H1 Q
def J6(ta:TE):TE:=λY H Q=>ta Y H λx H1=>∃c,x=.bl c/\Q (.bl (!c)) H1
def nk{op}(h:PE X a t):PE X (.BoolOp op [a] pos) t:=λd s Y H Q I c=>BoolOp_one (h d s Y H Q I c)
def np(c:PE X a ta)(i:PE X (.BoolOp .And (b::rest) pos) tb):PE X (.BoolOp .And (a::b::rest) pos) (J4 ta tb):=by
 intro e s Y H Q I h;refine BoolOp_and (ai (c e s Y H _ I h) λv g hI66=>?_);obtain⟨x,H1,I1,f,d⟩:=hI66;obtain⟨c,rfl,d⟩:=d;cases f;refine D6 ?_;cases c with
 | true=>exact i e g Y H1 Q I1 d
 | false=>exact{.bl false,H1,I1,rfl,d}
def nq(c:PE X a ta)(i:PE X (.BoolOp .Or (b::rest) pos) tb):PE X (.BoolOp .Or (a::b::rest) pos) (J5 ta tb):=by
 intro e s Y H Q I h;refine BoolOp_or (ai (c e s Y H _ I h) λv g hI67=>?_);obtain⟨x,H1,I1,f,d⟩:=hI67;obtain⟨c,rfl,d⟩:=d;cases f;refine D6 ?_;cases c with
 | false=>exact i e g Y H1 Q I1 d
 | true=>exact{.bl true,H1,I1,rfl,d}
def nr(c:PE X a ta):PE X (.UnaryOp .Not a pos) (J6 ta):=by
 intro d s Y H Q I h;refine UnaryOp_ (ai (c d s Y H _ I h) λv c hI68=>?_);obtain⟨x,H1,I1,e,d⟩:=hI68;obtain⟨c,rfl,d⟩:=d;cases e;exact not_of (D6 {.bl (!c),H1,I1,rfl,d})
end
def AV(K:FG)(H:Hp)(a:Addr)(xs:List V):Prop:=
 Rd H a (.lst xs)\/
  ∃(o:Obj) (its:Array Value) (n:Nat),K.lookup a=some o/\o.cls=.type "list"/\o.dict=none/\o.data=.seq its n/\its.size<=sizeLine/\Aq xs its.toList
def AN(K:FG)(H:Hp)(a:Addr)(xs:List V):Prop:=
 Rd H a (.tup xs)\/
  ∃(o:Obj) (its:Array Value) (n:Nat),K.lookup a=some o/\o.cls=.type "tuple"/\o.data=.seq its n/\its.size<=sizeLine/\Aq xs its.toList
def J9:Value->Option V
 | .none=>some .non
 | .bool b=>some (.bl b)
 | .int i _=>some (.int i)
 | .str x _=>some (.str x)
 | .bytes b _=>some (.byt b)
 | .float b _=>some (.flt b)
 | .ref a=>some (.ref a)
 | .type n=>some (.ty n)
 | _=>none
theorem Aj.abs(r:Aj x u):J9 u=some x:=by
 cases x with
 | non=>cases r;rfl
 | bl _=>cases r;rfl
 | int _=>obtain⟨t,rfl⟩:=r;rfl
 | str _=>obtain⟨t,rfl⟩:=r;rfl
 | byt _=>obtain⟨t,rfl⟩:=r;rfl
 | flt _=>obtain⟨t,rfl⟩:=r;rfl
 | ref _=>cases r;rfl
 | ty _=>cases r;rfl
def Aj.inj(r:Aj x u)(q:Aj y u):x=y:=Option.some.inj (r.abs.symm.trans q.abs)
theorem Aq.inj:∀{a b:List V} {us:List Value},Aq a us->Aq b us->a=b
 | _,_,_,.nil,.nil=>rfl
 | _,_,_,.cons r t,.cons r' c=>by rw[r.inj r',Aq.inj t c]
def AV.of{K:FG}(h:H a=some (.lst b)):AV K H a b:=.inl (.inl h)
def AN.of{K:FG}(h:H a=some (.tup b)):AN K H a b:=.inl (.inl h)
def Ab.list(I:Ab X l Y H s)(h:AV X.K H a c):∃b:List Value,Aq c b/\PlainL s.heap a b.toArray/\c.length<=sizeLine:=by
 rcases h with h | ⟨o,b,n,g,d,f,i,j,r⟩
 ·obtain⟨z,b,n,r,e⟩:=h.ok I.hok
  exact{b,r,{_,n,e,rfl,rfl,rfl},z}
 ·refine{b.toList,r,{o,n,I.kIn a o g,d,f,by simpa using i},?_}
  have e:=r.length;simp only[EV] at e;omega
def Ab.tuple(I:Ab X j Y H s)(h:AN X.K H a c):∃b:List Value,Aq c b/\IsTup s.heap a b.toArray/\c.length<=sizeLine:=by
 rcases h with h | ⟨o,b,n,f,d,g,i,r⟩
 ·obtain⟨z,b,r,p,_⟩:=h.ok I.hok
  exact⟨b,r,p,z⟩
 ·refine{b.toList,r,{o,I.kIn a o f,d,n,by simpa using g},?_}
  have e:=r.length;simp only[EV] at e;omega
def Ab.list_inj(I:Ab X l Y H s)(h:AV X.K H a i)(f:AV X.K H a g):i=g:=by
 obtain⟨c,r,⟨o,n,e,_,_,d⟩,_⟩:=I.list h;obtain⟨b,r',⟨o',j,e',_,_,d'⟩,_⟩:=I.list f;rw[e] at e';cases e';rw[d] at d';injection d' with d1 _
 have:c=b:=by simpa using congrArg Array.toList d1
 subst this;exact r.inj r'
def Ab.tuple_inj(I:Ab X l Y H s)(h:AN X.K H a i)(f:AN X.K H a g):i=g:=by
 obtain⟨c,r,⟨o,e,_,n,d⟩,_⟩:=I.tuple h;obtain⟨b,r',⟨o',e',_,j,d'⟩,_⟩:=I.tuple f;rw[e] at e';cases e';rw[d] at d';injection d' with d1 _
 have:c=b:=by simpa using congrArg Array.toList d1
 subst this;exact r.inj r'
abbrev Cx.wish(X:Cx)(E:Value->Shared->Prop):Cx:={ X with xe:=E }
abbrev Cx.nox(X:Cx):Cx:=X.wish λ_ _=>False
def Cx.Ok.wish{X:Cx}(a:X.Ok)(E:Value->Shared->Prop):(X.wish E).Ok:=
 ⟨a.mod,a.kind,a.glob,a.blt,a.above,a.inj,a.has,a.cab,a.hd,a.frames,a.stk,a.exf,a.bs,a.bsz,a.noex,a.exfs,a.funs,a.frf⟩
def Cx.Ok.unwish{X:Cx}{E:Value->Shared->Prop}(a:(X.wish E).Ok):X.Ok:=
 ⟨a.mod,a.kind,a.glob,a.blt,a.above,a.inj,a.has,a.cab,a.hd,a.frames,a.stk,a.exf,a.bs,a.bsz,a.noex,a.exfs,a.funs,a.frf⟩
def Ab.wish(I:Ab X a Y H s)(E:Value->Shared->Prop):Ab (X.wish E) a Y H s:={I.ok.wish E,I.os,I.bare,I.base,I.loc,I.cell,I.free,I.freeC,I.pin,I.hok,I.len}
def Ab.unwish(I:Ab (X.wish E) a Y H s):Ab X a Y H s:=⟨I.ok.unwish,I.os,I.bare,I.base,I.loc,I.cell,I.free,I.freeC,I.pin,I.hok,I.len⟩
open H in
theorem SP.unwish(h:SP (X.wish E) c D f s'):SP X c D f s':=by
 cases f with
 | next=>obtain⟨a,b,I,q⟩:=h;exact⟨a,b,I.unwish,q⟩
 | brk=>obtain⟨a,b,I,q⟩:=h;exact⟨a,b,I.unwish,q⟩
 | cont=>obtain⟨a,b,I,q⟩:=h;exact⟨a,b,I.unwish,q⟩
 | ret u=>obtain⟨v,a,b,I,r,q⟩:=h;exact⟨v,a,b,I.unwish,r,q⟩
def CA.nox{a:List Stmt}{t:TS}(h:CA X.nox a t):CA X a t:=λc s Y H D I b=>
 C4 (h c s Y H D (I.wish _) b) (λ_ _ q=>q.unwish) λ_ _ z=>False.elim z
section
variable{X:Cx}{st:Stmt}{rest:List Stmt}{t u:TS}{e:Expr}{te:TE}{pos:Pos}
def Ka:TS:=λD Y H=>D.nx Y H
def Kb(t u:TS):TS:=λD Y H=>t { D with nx:=u D } Y H
def ef:CA X [] Ka:=λ_ _ Y H _ I h=>wpAny_execs_nil ⟨Y,H,I,h⟩
open H in
def bp(b:PS X st t)(g:CA X rest u):CA X (st::rest) (Kb t u):=by
 intro a s Y H D I h;refine wpAny_execs_cons (ai (b a s Y H { D with nx:=u D } I h) λf c q=>?_);cases f with
 | next=>
   obtain⟨d,f,b,q⟩:=q;exact g a c d f D b q
 | ret v=>exact q
 | brk=>exact q
 | cont=>exact q
open H in
def cB(b:PS X st t):CA X [st] t:=by
 intro a s Y H D I h;refine wpAny_execs_cons (ai (b a s Y H D I h) λf a q=>?_);cases f with
 | next=>exact wpAny_execs_nil q
 | ret v=>exact q
 | brk=>exact q
 | cont=>exact q
def Ab.quiet{a:List 'p'}{Y:St}{H:Hp}{s:Shared}(I:Ab X a Y H s):interactive X.env=false:=by simp[interactive,I.ok.kind]
def HP(te:TE):TS:=λD Y H=>te Y H λ_ H1=>D.nx Y H1
def iA(b:PE X e te)(c:autoParam (swapsWith e none pos.line X.env=pure false) uR):PS X (.Expr e pos) (HP te):=by
 intro a s Y H D I h;exact wpAny_Expr_any (ai (b a s Y H _ I h) λv d ⟨x,H1,I1,b,a⟩=>⟨Y,H1,I1,a⟩) I.quiet c
def Kc(te:TE):TS:=λD Y H=>te Y H D.rt
def cC(b:PE X e te):PS X (.Return (some e) pos) (Kc te):=by
 intro a s Y H D I h;exact wpAny_Return_some (ai (b a s Y H _ I h) λv c ⟨x,H1,I1,a,b⟩=>⟨x,Y,H1,I1,a,b⟩)
def Kd(c:TT)(t u:TS):TS:=λD Y H=>c Y H λb H1=>if b=true then t D Y H1 else u D Y H1
def eg{c:Expr}{a b:List Stmt}{d:TT}(f:PT X c d)(g:CA X a t)(i:CA X b u):PS X (.If c a b pos) (Kd d t u):=by
 intro a s Y H D I h;refine wpAny_If (ai (f a s Y H _ I h) λd c hI69=>?_);obtain⟨H1,I1,b⟩:=hI69;cases d with
 | true=>exact g a c Y H1 D I1 b
 | false=>exact i a c Y H1 D I1 b
end
abbrev TG:=V->St->Hp->(St->Hp->Prop)->Prop
abbrev TGs:=List V->St->Hp->(St->Hp->Prop)->Prop
instance PG(X:Cx)(target:Expr)(t:TG):Prop:=
 ∀(A3:List 'p') (s:Shared) (Y:St) (H:Hp) (v:V) (u:Value) (Q:St->Hp->Prop),Ab X A3 Y H s->Aj v u->t v Y H Q->
  wpAny 'e' X.A (assign target X.env u) (λ_ s'=>∃Y' H',Ab X A3 Y' H' s'/\Q Y' H') X.xe s
instance PGs(X:Cx)(ts:List Expr)(t:TGs):Prop:=
 ∀(A3:List 'p') (s:Shared) (Y:St) (H:Hp) (vs:List V) (us:List Value) (Q:St->Hp->Prop),Ab X A3 Y H s->Aq vs us->t vs Y H Q->
  wpAny 'e' X.A (assignInOrder ((assignEach ts X.env).map (·.2)) us) (λ_ s'=>∃Y' H',Ab X A3 Y' H' s'/\Q Y' H') X.xe s
abbrev HQ:=V->V->V->Hp->(Hp->Prop)->Prop
def Jm(X:Cx)(t:HQ):Prop:=
 ∀(A3:List 'p') (s:Shared) (Y:St) (H:Hp) (o i v:V) (ov iv u:Value) (Q:Hp->Prop),Ab X A3 Y H s->Aj o ov->Aj i iv->Aj v u->t o i v H Q->
  wpAny 'e' X.A (setItem ov iv u) (λ_ s'=>∃H',Ab X A3 Y H' s'/\Q H') X.xe s
abbrev TIp:=V->V->Hp->VK->Prop
instance PIp(X:Cx)(op:Operator)(t:TIp):Prop:=
 ∀(A3:List 'p') (s:Shared) (Y:St) (H:Hp) (x y:V) (v u:Value) (Q:VK),Ab X A3 Y H s->Aj x v->Aj y u->t x y H Q->
  wpAny 'e' X.A (inplaceOp op v u) (EP X A3 Y Q) X.xe s
def FA(i:Nat):TG:=λv Y H Q=>Q (Y.set i (some v)) H
def eh{i:Nat}{x:Str}(a:X.N.Nodup)(e:X.N[i]?=some x)(b:Loc X.env.scope x)(c:X.fn x=true\/X.env.scope.names.lookup x=some .local:=by first | exact .inl rfl | exact .inr rfl | assumption):PG X (.Name x pos) (FA i):=by
 intro d s Y H v u Q I r h;exact wpAny_assign_Name (bQ I a e b r (λs' d=>{_,H,d,h}) c)
def Ke:TGs:=λvs Y H Q=>vs=[]/\Q Y H
def Kf(t:TG)(u:TGs):TGs:=λvs Y H Q=>∃v r,vs=v::r/\t v Y H λY' H'=>u r Y' H' Q
def fx:PGs X [] Ke:=by
 intro b s Y H a us Q I r h;obtain⟨e,h⟩:=h;subst e;cases r;exact assignInOrder_nil ⟨Y,H,I,h⟩
def cV{e:Expr}{es:List Expr}{t:TG}{u:TGs}(b:PG X e t)(c:PGs X es u)(f:autoParam ((assignEach (e::es) X.env).map (·.2)=assign e X.env::(assignEach es X.env).map (·.2)) uR):PGs X (e::es) (Kf t u):=by
 intro a s Y H d us Q I r h;obtain⟨v,vr,d,h⟩:=h;subst d;cases r with
 | cons r d=>
   rw[f];refine assignInOrder_cons (ai (b a s Y H _ _ _ I r h) λ_ f hI70=>?_);obtain⟨e,H1,I1,b⟩:=hI70;exact c a f e H1 _ _ Q I1 d b
def Kg(K:FG)(n:Nat)(t:TGs):TG:=λv Y H Q=>∃a xs,v=.ref a/\AN K H a xs/\xs.length=n/\t xs Y H Q
def fy{k:Nat}{n:Nat}(x:X.calm=true)(h:PGs X es t)(p:autoParam ((assignEach es X.env).length=n) uR)(c:autoParam ((assignEach es X.env).findIdx? (·.1)=none) uR):PG X (.Tuple es k pos) (Kg X.K n t):=by
 intro g s Y H v u Q I r d;obtain⟨a,y,q,m,z,d⟩:=d;subst q;cases r;obtain⟨A,f,i,B⟩:=I.tuple m;refine assign_Tuple_tuple (I.ok.hd x) i (by simp[p,<-z,f.length]) c λl j=>?_
 have I1:Ab X g Y H { s with heap:=l }:=I.kept (t':=s.toks) λb o e=>j b o (Bk (Heap.lt_size e)) e
 exact h g _ Y H y _ Q I1 (by simpa using f) d
def Jn(to ti:TE)(t:HQ):TG:=λv Y H Q=>to Y H λo H1=>ti Y H1 λi H2=>t o i v H2 λH3=>Q Y H3
def nu{o i:Expr}{d ti:TE}{t:HQ}(g:PE X o d)(e:PE X i ti)(j:Jm X t)(f:∀v,assign (.Subscript o i pos) X.env v=(do
  let a <-holding [v] (eval o X.env)
  let b <-holding [v,a] (eval i X.env)
  standAt pos
  holding [v,a,b] (setItem a b v)
  release [v,a,b] []):=by intro _;rfl):PG X (.Subscript o i pos) (Jn d ti t):=by
 intro c s Y H v u Q I r h;rw[f];refine Ac (wpAny_holding (ai (g c s Y H _ I h) λa d hI71=>?_));obtain⟨x,H1,I1,f,g⟩:=hI71;refine Ac (wpAny_holding (ai (e c d Y H1 _ I1 g) λb h hI72=>?_));obtain⟨y,H2,I2,d,g⟩:=hI72;refine Ac (wpAny_standAt (Ac (wpAny_holding (ai (j c h Y H2 x y v a b u _ I2 f d r g) λ_ a hI73=>?_))));obtain⟨H3,I3,a⟩:=hI73;exact wpAny_release ⟨Y,H3,I3,a⟩
def FB(te:TE)(g:TG):TS:=λD Y H=>te Y H λx H1=>g x Y H1 D.nx
def fD{a e:Expr}{b:TE}{g:TG}(d:PE X e b)(i:PG X a g)(j:autoParam (swapsWithSole [a] e pos.line X.env=pure false) uR)(f:autoParam (swappedStores [a] e X.env=pure none) uR)(c:autoParam ((assignEach [a] X.env).map (·.2)=[assign a X.env]) uR):PS X (.Assign [a] e pos) (FB b g):=by
 intro a s Y H D I h;refine wpAny_Assign_stores (ai (d a s Y H _ I h) λv d hI74=>?_) j f;obtain⟨x,H1,I1,b,e⟩:=hI74;rw[c];exact ai (i a d Y H1 x v _ I1 b e) λ_ a q=>q
def bv{i:Nat}{x:Str}{e:Expr}{b:TE}{a:Pos}(g:X.N.Nodup)(f:X.N[i]?=some x)(c:Loc X.env.scope x)(j:PE X e b)(l:autoParam (swapsWith e (some (.Name x a)) pos.line X.env=pure false) uR)(d:X.fn x=true\/X.env.scope.names.lookup x=some .local:=by first | exact .inl rfl | exact .inr rfl | assumption) :
 PS X (.Assign [.Name x a] e pos) (FB b (FA i)):=by
 intro a s Y H D I h;refine wpAny_Assign_Name (ai (j a s Y H _ I h) λv a hI75=>?_) l;obtain⟨y,H1,I1,a,b⟩:=hI75;exact bQ I1 g f c a (λe I2=>{_,H1,I2,b}) d
def Kh(i j:Nat)(ta:TA):TS:=λD Y H=>ta Y H λvs H1=>∃v w,vs=[v,w]/\D.nx ((Y.set i (some v)).set j (some w)) H1
def nv{i j:Nat}{x y:Str}{a b:Expr}{f:TA}{e c d:Pos}{kt k2 pt2}(A:X.calm=true)(n:X.N.Nodup)(u:X.N[i]?=some x)(r:X.N[j]?=some y)(g:i≠j)(m:X.env.scope.names.lookup x=some .local)(l:X.env.scope.names.lookup y=some .local)(o:PA X [a,b] f)(z:swappedStores [.Tuple [.Name x e,.Name y c] kt d] (.Tuple [a,b] k2 pt2) X.env=pure (some [x,y]))(p:autoParam (swapsWithSole [.Tuple [.Name x e,.Name y c] kt d] (.Tuple [a,b] k2 pt2) pos.line X.env=pure false) uR) :
 PS X (.Assign [.Tuple [.Name x e,.Name y c] kt d] (.Tuple [a,b] k2 pt2) pos) (Kh i j f):=by
 intro e s Y H D I h;rw[exec_Assign_arm];refine Ac (wpAny_standAt ?_);rw[p];refine Ac (An ?_);rw[if_neg 'z'];refine Ac (Tuple_ (ai (o _ e s Y H _ I h) λus d hI76=>?_));obtain⟨a,H1,I1,j,f⟩:=hI76;obtain⟨v,w,h,f⟩:=f;subst h;obtain⟨c,a,rfl,s,i⟩:∃c a,us=[c,a]/\Aj v c/\Aj w a:=by
  cases j with
  | cons p q=>
    cases q with
    | cons p' h=>
      cases h;exact{_,_,rfl,p,p'}
 refine wpAny_newObj_type ?_ (by show 2<=sizeLine;decide);have I2:Ab X e Y H1 { d with heap:=d.heap.push { cls:=.type "tuple",data:=.seq [c,a].toArray } }:=I1.kept (t':=d.toks) λb o e=>AM _ e
 rw[z];refine Ac (An ?_);show wpAny 'e' X.A (do rule "assign.swapped-stores";let items <-unpackItems (.ref d.heap.objs.size) 2 none;assignInOrder [λv=>bindName X.env y v,λv=>bindName X.env x v] items.reverse;pure Flow.next) _ _ _;refine Ac (aW (Ac (unpackItems_tuple (items:=#[c,a]) (I.ok.hd A) (IsTup.new d.heap _) λh' h=>?_)));have I3:=I2.kept (h':=h') (t':=d.toks) λb o e=>h b o (Bk (Heap.lt_size e)) e
 show wpAny _ _ (assignInOrder [λv=>bindName X.env y v,λv=>bindName X.env x v] [a,c] >>= λ_=>pure Flow.next) _ _ _;refine Ac (assignInOrder_cons (wpAny_bindName (bQ I3 n r (.inl l) i (λa I4=>?_) (.inr l))));refine assignInOrder_cons (wpAny_bindName (bQ I4 n u (.inl m) s (λa I5=>assignInOrder_nil (An ?_)) (.inr m)));rw[List.set_comm _ _ (Ne.symm g)] at I5;exact{_,H1,I5,f}
def Ki(i:Nat)(te:TE)(ti:TIp):TS:=λD Y H=>∃x,Y[i]?=some (some x)/\te Y H λy H1=>ti x y H1 λz H2=>D.nx (Y.set i (some z)) H2
def nw{i:Nat}{x:Str}{e:Expr}{b:TE}{f:Operator}{ti:TIp}{a:Pos}(q:X.N.Nodup)(j:X.N[i]?=some x)(d:Loc X.env.scope x)(y:PE X e b)(p:PIp X f ti)(o:X.fn x=true\/X.env.scope.names.lookup x=some .local:=by first | exact .inl rfl | exact .inr rfl | assumption) :
 PS X (.AugAssign (.Name x a) f e pos) (Ki i b ti):=by
 intro c s Y H D I h;obtain⟨v,b,h⟩:=h;obtain⟨m,n,g⟩:=I.loc;have a:Vis X.env.scope x:=by rcases d with k | k;exact .inl k;exact .inr (.inl k)
 obtain⟨u,r,l⟩:=g i x v j b a;refine wpAny_AugAssign_Name ?_;have g:wpAny 'e' X.A (eval e X.env) (λw b=>wpAny 'e' X.A (inplaceOp f u w) (λr a=>wpAny 'e' X.A (storeName X.env x r) (λ_=>SP X c D .next) X.xe a) X.xe b) X.xe s:=by
  refine ai (y c s Y H _ I h) λw a hI77=>?_
  obtain⟨y,H1,I1,b,e⟩:=hI77;refine ai (p c a Y H1 v y u w _ I1 r b e) λz a hI78=>?_
  obtain⟨c,H2,I2,a,b⟩:=hI78;exact bQ I2 q j d a (λc I3=>{_,H2,I3,b}) o
 rcases l with⟨a,f⟩ | ⟨a,c,e,b⟩
 ·exact wpAny_loadName_local I.ok.kind a n f g
 ·rcases a with a | a
  ·exact wpAny_loadName_cell I.ok.kind a e b g
  ·rcases d with k | k
   ·have:X.env.scope.names.lookup x=some .free:=a
    rw[k] at this;cases this
   ·have:X.env.scope.names.lookup x=some .free:=a
    rw[k] at this;cases this
instance ipI(f:Int->Int->Int):TIp:=λx y H Q=>∃i j,x=.int i/\y=.int j/\Q (.int (f i j)) H
def u3:PIp X .Add (ipI λi j=>i+j):=by
 intro a s Y H x y v u Q I c b h;obtain⟨i,j,a,d,q⟩:=h;subst a;subst d;obtain⟨t,rfl⟩:=c;obtain⟨a,rfl⟩:=b;exact iadd_int {.int _,H,I.tok _,{_,rfl},q}
def Kj(c:TT)(tb:TS):TS:=λD Y H=>∃W:Nat->St->Hp->Prop,(∃m,W m Y H)/\∀m Y H,W m Y H->
 c Y H λb H1=>if b=true then ∃N:St->Hp->Prop,(∀Y' H',N Y' H'->∃m',m' < m/\W m' Y' H')/\tb { D with nx:=N,ct:=N,bk:=D.nx } Y H1 else D.nx Y H1
open H in
def ny{c:Expr}{a:List Stmt}{b:TT}{tb:TS}(e:PassesOwn 'e' X.A X.env X.xe)(i:PT X c b)(f:CA X a tb):PS X (.While c a [] pos) (Kj b tb):=by
 intro a s Y H D I h;obtain⟨W,⟨g,d⟩,turn⟩:=h;refine wpAny_While (codeAny_whileLoop (λn s'=>∃c b,Ab X a c b s'/\W n c b) ?_ g ⟨Y,H,I,d⟩);rintro n b ⟨c,H1,I1,d⟩;refine wpAny_passesOwn e (ai (i a b c H1 _ I1 (turn n c H1 d)) λb g hI79=>?_);obtain⟨H2,I2,d⟩:=hI79;cases b with
 | true=>
   obtain⟨N,h,d⟩:=d;rw[if_pos rfl];refine wpAny_passesOwn e (ai (f a g c H2 _ I2 d) λf a b=>?_);cases f with
   | next=>
     obtain⟨a,H3,I3,f⟩:=b;obtain⟨m',g,e⟩:=h a H3 f;exact⟨m',g,a,H3,I3,e⟩
   | cont=>
     obtain⟨a,H3,I3,f⟩:=b;obtain⟨m',g,e⟩:=h a H3 f;exact⟨m',g,a,H3,I3,e⟩
   | brk=>exact b
   | ret v=>exact b
 | false=>
   rw[if_neg BA];exact wpAny_execs_nil ⟨c,H2,I2,d⟩
structure It where
 go:Nat->Hp->Prop
 yld:Nat->Hp->V->Hp->Prop
 stop:Nat->Hp->Prop
def Da(X:Cx)(A3:List 'p')(H:Hp)(b:Addr):Prop:=
 H b=none/\b≠X.env.locals/\b∉X.fs/\(b∈X.ex\/X.s₀.heap.objs.size<=b)/\(∀x c,X.env.cells.lookup x=some c->c≠b)/\∀p∈X.pn++A3,p.1≠b
def Ab.fpOk{X:Cx}{d:List 'p'}{Y:St}{H c:Hp}{s:Shared}{b:Addr}(I:Ab X d Y H s)(a:s.heap.objs.size<=b)(e:c b=none):Da X d c b:=by
 refine{e,Nat.ne_of_gt (AW I.lt a),I.nofs a,.inr (Az I.sz a),λx c e z=>?_,λp b z=>?_}
 ·obtain⟨v,q⟩:=I.cell x c e
  exact absurd (AW q.lt (by rw[z];exact a)) (Dj _)
 ·exact absurd (AW (Heap.lt_size (I.pin p b).1) (by rw[z];exact a)) (Dj _)
structure EY(P:Program)(w:World)(K:FG)(tg:Expr)(J:It)(fp:List Addr)(it:Addr)(tn:Nat->Heap->Prop):Prop where
 mem:it∈fp
 obj:∀i h,tn i h->∀b∈fp,∃o,h.get? b=some o/\∀v,o.data≠.cell v
 keep:∀i h h',tn i h->(∀b∈fp,∀o,h.get? b=some o->h'.get? b=some o)->tn i h'
 item:∀(X:Cx),X.prog=P->X.w=w->X.K=K->X.calm=true->∀(i:Nat) (A3:List 'p') (s:Shared) (Y:St) (H:Hp) (E:Value->Shared->Prop),Ab X A3 Y H s->(∀b∈fp,Da X A3 H b)->tn i s.heap->J.go i H->
  wpAny (model P w) X.A (pyNext (.ref it)) (λr s1=>∃u,r=some u/\
   wpAny (model P w) X.A (letOwnedTupleGo tg (.ref it) u) (λ_ s2=>∃x H',Ab X A3 Y H' s2/\Aj x u/\J.yld i H x H'/\tn (i+1) s2.heap/\∀b∈fp,H' b=none) E s1) E s
 done:∀(X:Cx),X.prog=P->X.w=w->X.K=K->X.calm=true->∀(i:Nat) (A3:List 'p') (s:Shared) (Y:St) (H:Hp) (E:Value->Shared->Prop),Ab X A3 Y H s->(∀b∈fp,Da X A3 H b)->tn i s.heap->J.stop i H->
  wpAny (model P w) X.A (pyNext (.ref it)) (λr s1=>r=none/\Ab X A3 Y H s1) E s
 self:∀(A:Around) (i:Nat) (s:Shared) (Q:Value->Shared->Prop) (E:Value->Shared->Prop),tn i s.heap->Q (.ref it) s->wpAny (model P w) A (pyIter (.ref it)) Q E s
abbrev TI:=St->Hp->(It->Hp->Prop)->Prop
instance PIE(X:Cx)(A3:List 'p')(Y:St)(tg:Expr)(R:It->Hp->Prop)(itv:Value)(s2:Shared):Prop:=
 ∃(it:Addr) (fp:List Addr) (tn:Nat->Heap->Prop) (J:It) (H':Hp),itv=.ref it/\Ab X A3 Y H' s2/\EY X.prog X.w X.K tg J fp it tn/\tn 0 s2.heap/\(∀b∈fp,Da X A3 H' b)/\R J H'
instance PI(X:Cx)(tg iter:Expr)(wi:TI):Prop:=
 ∀(A3:List 'p') (s:Shared) (Y:St) (H:Hp) (R:It->Hp->Prop),Ab X A3 Y H s->wi Y H R->
  wpAny 'e' X.A (eval iter X.env) (λv s1=>wpAny 'e' X.A (pyIter v) (PIE X A3 Y tg R) X.xe s1) X.xe s
def fE{n:String}(b:s.heap.get? it=some o)(c:o.cls=.type n)(e:o.data=.fields d)(f:["enumerate","zip","dict_itemiterator","dict_reverseitemiterator","odict_iterator","itertools.zip_longest","itertools.pairwise"].contains n=false)(a:Q () s):wpAny M A (letOwnedTupleGo tg (.ref it) u) Q E s:=by
 unfold letOwnedTupleGo;cases tg<;>first
  | exact An a
  | (cases u<;>first
   | exact An a
   | (refine Ac (wpAny_load b ?_)
      rw[c,e];show wpAny M A (if (["enumerate","zip","dict_itemiterator","dict_reverseitemiterator","odict_iterator","itertools.zip_longest","itertools.pairwise"].contains n&&d[0]? == some (rawInt _))=true then _ else _) Q E s;rw[if_neg (by intro h;rw[f,Bool.false_and] at h;cases h)];exact An a))
instance Itl(K:FG)(a:Addr):It:=
 {λi H=>∃xs x,AV K H a xs/\xs[i]?=some x,λi H x H'=>H'=H/\∀xs,AV K H a xs->xs[i]?=some x,λi H=>∃xs,AV K H a xs/\xs.length<=i}
instance Itt(K:FG)(a:Addr):It:=
 {λi H=>∃xs x,AN K H a xs/\xs[i]?=some x,λi H x H'=>H'=H/\∀xs,AN K H a xs->xs[i]?=some x,λi H=>∃xs,AN K H a xs/\xs.length<=i}
instance Itr(lo:Int)(n:Nat):It:={λi _=>i<n,λi H x H'=>H'=H/\x=.int (lo+i),λi _=>n<=i}
def nz{P:Program}{w:World}{K:FG}{tg:Expr}(a g:Addr):EY P w K tg (Itl K a) [g] g (λi h=>h.IsListIter g a i) where
 mem:=by simp
 obj:=λi h f b j=>by
  have e:b=g:=by simpa using j
  subst e;obtain⟨o,e,c,d⟩:=f;exact{o,e,λv z=>by rw[d] at z;cases z}
 keep:=λi h q f k=>f.at λo e=>k g 'd' o e
 item:=by
  intro X C G Q U i T s Y H E I n f J;subst C G Q;obtain⟨xs,x,m,r⟩:=J;obtain⟨B,N,p,hz⟩:=I.list m;obtain⟨u,hu,ru⟩:=N.get r;obtain⟨A,y,f2,R,M,O⟩:=n g 'd';refine wpAny_pyNext_list_item f p.isList (x:=u) (by simpa using hu) λq l sb=>?_
  have I1:Ab X T Y H { s with heap:=q }:=I.turned (t':=s.toks) (λb o j e=>(sb.2 b j).trans e) A y R M O;obtain⟨o,e,c,d⟩:=id l;exact{u,rfl,fE (s:={ s with heap:=q }) e c d 'z' {x,H,I1,ru,{rfl,λys W=>by rw[I.list_inj W m];exact r},l,λb j=>(n b j).1}}
 done:=by
  intro X C G Q U i T s Y H E I n f J;subst C G Q;obtain⟨xs,m,r⟩:=J;obtain⟨B,N,p,hz⟩:=I.list m;obtain⟨A,y,f2,R,M,O⟩:=n g 'd';have hl:=N.length;exact wpAny_pyNext_list_end (I.ok.hd U) f p.isList (by simp;omega) λq Z=>{rfl,I.turned (t':=s.toks) (λb o j e=>Z b o j e) A y R M O}
 self:=λ_ _ _ _ _ f h=>wpAny_pyIter_listiter f h
def nA{P:Program}{w:World}{K:FG}{tg:Expr}(a j:Addr):EY P w K tg (Itt K a) [j] j (λi h=>h.IsTupleIter j a i) where
 mem:=by simp
 obj:=λi h f b l=>by
  have e:b=j:=by simpa using l
  subst e;obtain⟨o,e,c,d⟩:=f;exact{o,e,λv z=>by rw[d] at z;cases z}
 keep:=λi h r f k=>f.at λo e=>k j 'd' o e
 item:=by
  intro X C G Q U i T s Y H E I q f J;subst C G Q;obtain⟨xs,x,n,y⟩:=J;obtain⟨g,N,p,hz⟩:=I.tuple n;obtain⟨u,hu,ru⟩:=N.get y;obtain⟨B,A,f2,R,M,O⟩:=q j 'd';refine wpAny_pyNext_tuple_item f (show s.heap.IsTuple a g.toArray from p) (x:=u) (by simpa using hu) λr m sb=>?_
  have I1:Ab X T Y H { s with heap:=r }:=I.turned (t':=s.toks) (λb o l e=>(sb.2 b l).trans e) B A R M O;obtain⟨o,e,c,d⟩:=id m;exact{u,rfl,fE (s:={ s with heap:=r }) e c d 'z' {x,H,I1,ru,{rfl,λys W=>by rw[I.tuple_inj W n];exact y},m,λb l=>(q b l).1}}
 done:=by
  intro X C G Q U i T s Y H E I q f J;subst C G Q;obtain⟨xs,n,y⟩:=J;obtain⟨g,N,p,hz⟩:=I.tuple n;obtain⟨B,A,f2,R,M,O⟩:=q j 'd';have hl:=N.length;exact wpAny_pyNext_tuple_end (I.ok.hd U) f (show s.heap.IsTuple a g.toArray from p) (by simp;omega) λr Z=>{rfl,I.turned (t':=s.toks) (λb o l e=>Z b o l e) B A R M O}
 self:=λ_ _ _ _ _ f h=>wpAny_pyIter_tupleiter f h
def nB{P:Program}{w:World}{K:FG}{a:Expr}(c:Addr)(l:Int)(n:Nat):EY P w K a (Itr l n) [c] c (λi h=>IsRangeIter h c (l+(i:Nat)*1) ((n:Int)-(i:Nat)) 1) where
 mem:=by simp
 obj:=λi h a b d=>by
  have e:b=c:=by simpa using d
  subst e;exact{_,a,λv z=>by
   have z':Data.fields _=Data.cell v:=z;cases z'}
 keep:=λi h j a k=>k c 'd' _ a
 item:=by
  intro X u x r A i G s Y H E I g a z;subst u x r;obtain⟨p,m,f2,y,B,q⟩:=g c 'd';have W:=Walks.range (prog:=X.prog) (w:=X.w) (I.ok.hd A) c l 1 n;refine W.item i s _ _ z a λv j C o f J=>?_
  obtain⟨t,rfl⟩:=o;have I1:Ab X G Y H { s with heap:=j,toks:=C }:=I.turned (λb o d e=>J b o (by simpa using d) e) p m y B q;refine{_,rfl,fE (s:={ s with heap:=j,toks:=C }) (n:="range_iterator") f rfl rfl 'z' {.int (l+i),H,I1,{t,?_},⟨rfl,rfl⟩,f,λb d=>(g b d).1}};rw[Int.mul_one]
 done:=by
  intro X u x r A i G s Y H E I g a z;subst u x r;obtain⟨p,m,f2,y,B,q⟩:=g c 'd';exact wpAny_pyNext_range_end (I.ok.hd A) a (by have:n<=i:=z;omega) λj c=>{rfl,I.turned (t':=s.toks) (λb o d e=>c b o d e) p m y B q}
 self:=λ_ _ _ _ _ a h=>wpAny_pyIter_rangeiter a h
def Kk(K:FG)(tl:TE):TI:=λY H R=>tl Y H λx H1=>∃a,x=.ref a/\(∃xs,AV K H1 a xs)/\R (Itl K a) H1
def Kl(K:FG)(tl:TE):TI:=λY H R=>tl Y H λx H1=>∃a,x=.ref a/\(∃xs,AN K H1 a xs)/\R (Itt K a) H1
def iB{l:Expr}{d:TE}(j:PE X l d):PI X tg l (Kk X.K d):=by
 intro f s Y H R I h;refine ai (j f s Y H _ I h) λv c hI80=>?_
 obtain⟨x,H1,I1,i,n⟩:=hI80;obtain⟨a,e,⟨z,g⟩,q⟩:=n;subst e;cases i;obtain⟨m,u,p,y⟩:=I1.list g;refine wpAny_pyIter_list p.isList ?_;refine{c.heap.objs.size,[c.heap.objs.size],_,_,H1,rfl,I1.kept (t':=c.toks) λb o e=>AM _ e,nz a _,{_,Bi _ rfl,rfl,rfl},λb r=>?_,q};have e:b=c.heap.objs.size:=by simpa using r
 subst e;exact I1.fpOk (Am _) (I1.hok.fresh (Am _))
def nC{l:Expr}{f:TE}(m:PE X l f):PI X tg l (Kl X.K f):=by
 intro g s Y H R I h;refine ai (m g s Y H _ I h) λv c hI81=>?_
 obtain⟨x,H1,I1,j,n⟩:=hI81;obtain⟨a,e,⟨z,i⟩,q⟩:=n;subst e;cases j;obtain⟨d,u,p,y⟩:=I1.tuple i;refine wpAny_pyIter_tuple (show c.heap.IsTuple a d.toArray from p) ?_;refine{c.heap.objs.size,[c.heap.objs.size],_,_,H1,rfl,I1.kept (t':=c.toks) λb o e=>AM _ e,nA a _,{_,Bi _ rfl,rfl,rfl},λb r=>?_,q};have e:b=c.heap.objs.size:=by simpa using r
 subst e;exact I1.fpOk (Am _) (I1.hok.fresh (Am _))
def nD{f:List 'p'}{Y:St}{H:Hp}{s:Shared}{R:It->Hp->Prop}{E:Value->Shared->Prop}{a c:Int}{t u v:Tok}{d:Nat}(I:Ab X f Y H s)(e:-(2 ^ 62)<=a)(g:a<2 ^ 62)(b:-(2 ^ 62)<=c)(h:c<2 ^ 62)(q:R (Itr a (c-a).toNat) H):wpAny 'e' X.A (pyIter (.ref s.heap.objs.size)) (PIE X f Y tg R) E { s with heap:=s.heap.push { cls:=.type "range",data:=.fields #[.int a t,.int c u,.int 1 v] },toks:=d }:=by
 refine wpAny_pyIter_range (IsRange.new ..) (small_one e g b h) ?_;have I1:Ab X f Y H { s with heap:=s.heap.push { cls:=.type "range",data:=.fields #[.int a t,.int c u,.int 1 v] },toks:=d }:=I.kept λb o e=>AM _ e
 refine{(s.heap.push { cls:=.type "range",data:=.fields #[.int a t,.int c u,.int 1 v] }).objs.size,[(s.heap.push { cls:=.type "range",data:=.fields #[.int a t,.int c u,.int 1 v] }).objs.size],_,_,H,rfl,I1.kept (t':=d) λb o e=>AM _ e,nB _ a (c-a).toNat,?_,λb h=>?_,q}
 ·have d:a+((0:Nat):Int)*1=a:=by simp
  have g:(((c-a).toNat:Nat):Int)-((0:Nat):Int)=Builtin.Range.rangeSize a c 1:=by rw[rangeSize_one];split<;>omega
  show IsRangeIter _ _ (a+((0:Nat):Int)*1) ((((c-a).toNat:Nat):Int)-((0:Nat):Int)) 1;rw[d,g];exact Bi _ rfl
 ·have e:b=(s.heap.push { cls:=.type "range",data:=.fields #[.int a t,.int c u,.int 1 v] }).objs.size:=by simpa using h
  subst e;exact I1.fpOk (Am _) (I1.hok.fresh (Am _))
def Km(ta:TA):TI:=λY H R=>ta Y H λvs H1=>∃j:Int,vs=[.int j]/\-(2 ^ 62)<=j/\j<2 ^ 62/\R (Itr 0 j.toNat) H1
def nE{a:Expr}{b:TA}{p pos:Pos}(c:Gl X "range")(d:X.mg "range" = none)(e:PA X [a] b)(f:autoParam (starEach [a] X.env=[(false,eval a X.env)]) uR):PI X tg (.Call (.Name "range" p) [a] [] pos) (Km b):=by
 intro a s Y H R I h;refine Call_ (cc I c d boot_range (PyProof.Rows.callWith_type1 (ai (e pos a s Y H _ I h) λus a hI82=>?_) f rfl));obtain⟨b,H1,I1,c,a⟩:=hI82;obtain⟨j,e,a,d,q⟩:=a;subst e;cases c with
 | cons r b=>
   cases b;obtain⟨t,rfl⟩:=r;exact call_range_1 (nD I1 'o' 'o' a d (by simpa using q))
def Kn(wi:TI)(g:TG)(tb:TS):TS:=λD Y H=>wi Y H λJ H1=>∃W:Nat->Nat->St->Hp->Prop,(∃m,W 0 m Y H1)/\∀i m Y H,W i m Y H->
 (J.stop i H/\D.nx Y H)\/(J.go i H/\∃N:St->Hp->Prop,(∀Y' H',N Y' H'->∃m',m' < m/\W (i+1) m' Y' H')/\∀x H',J.yld i H x H'->g x Y H' λY2 H2=>tb { D with nx:=N,ct:=N,bk:=D.nx } Y2 H2)
def GE(fp:List Addr)(h:Heap):List 'p':=fp.filterMap λb=>(h.get? b).map λo=>(b,o)
def en{a:List Addr}{h:Heap}{b:Addr}{o:Obj}(c:b∈a)(e:h.get? b=some o):(b,o)∈GE a h:=List.mem_filterMap.mpr {b,c,by rw[e];rfl}
def nF(a:p∈GE fp h):p.1∈fp/\h.get? p.1=some p.2:=by
 obtain⟨b,c,e⟩:=List.mem_filterMap.mp a;cases q:h.get? b with
 | none=>rw[q] at e;cases e
 | some o=>
   rw[q] at e;have e':(b,o)=p:=Option.some.inj e;subst e';exact⟨c,q⟩
def Ab.pinned{a:List 'p'}{Y:St}{H:Hp}{s:Shared}{c:List Addr}(I:Ab X a Y H s)(f:∀b∈c,Da X a H b)(g:∀b∈c,∃o,s.heap.get? b=some o/\∀v,o.data≠.cell v):Ab X (a++GE c s.heap) Y H s:=
 I.pins_of λp b=>(BP.mp b).elim (λz=>I.pin p (Ey _ z)) λz=>by
  obtain⟨b,e⟩:=nF z;obtain⟨h,c,f2,_⟩:=f p.1 b;obtain⟨o,e',d⟩:=g p.1 b;rw[e] at e';cases e';exact⟨e,h,c,f2,d⟩
def Ab.unpinned{a b:List 'p'}{Y:St}{H:Hp}{s:Shared}(I:Ab X (a++b) Y H s):Ab X a Y H s:=I.pins_of λp b=>I.pin p (Ey _ (E8 _ b))
open H in
def nG{a:Expr}{b:List Stmt}{d:TI}{g:TG}{tb:TS}{pos:Pos}(f:PassesOwn 'e' X.A X.env X.xe)(u:X.calm=true)(z:PI X tg a d)(C:PG X tg g)(c:CA X b tb)(i:∀x,foldedSetIterable a X.env x=pure x:=by intro _;rfl):PS X (.For tg a b [] pos) (Kn d g tb):=by
 intro j s Y H D I h;refine wpAny_For (ai (z j s Y H _ I h) λv g d=>ai d λb e a=>?_) i;obtain⟨b,o,s,J,H2,e,I2,T,g,f2,W,⟨h,l⟩,turn⟩:=a;subst e
 -- what stays true of the iterator's objects through the loop
 have a:∀{d:Hp},(∀b∈o,d b=none)->∀b∈o,Da X j d b:=λi b c=>{i b c,(f2 b c).2}
 refine codeAny_forLoop_any (λn s'=>∃i p d,Ab X j p d s'/\s i s'.heap/\(∀b∈o,d b=none)/\W i n p d) ?_ h {0,Y,H2,I2,g,λb c=>(f2 b c).1,l};rintro n q ⟨i,m,H3,I3,l,h,r⟩;rcases turn i n m H3 r with⟨g,B⟩ | ⟨y,N,A,step⟩
 ·refine wpAny_passesOwn f (ai (T.done X rfl rfl rfl u i j q m H3 X.xe I3 (a h) l g) λr E hI83=>?_)
  obtain⟨g,I4⟩:=hI83;subst g;exact wpAny_execs_nil ⟨m,H3,I4,B⟩
 ·refine wpAny_passesOwn f (ai (T.item X rfl rfl rfl u i j q m H3 X.xe I3 (a h) l y) λr E hI84=>?_)
  obtain⟨u,g,h⟩:=hI84;subst g;refine wpAny_passesOwn f (ai h λ_ q hI85=>?_);obtain⟨x,H5,I5,l,r,h,g⟩:=hI85;have I5':=I5.pinned (a g) (T.obj _ _ h);refine wpAny_passesOwn f (ai (C _ q m H5 x u _ I5' l (step x H5 r)) λ_ l hI86=>?_);obtain⟨g,H6,I6,a⟩:=hI86;refine wpAny_passesOwn f (ai (c _ l g H6 _ I6 a) λf l g=>?_);have again:∀{a:St} {H7:Hp},Ab X (j++GE o q.heap) a H7 l->N a H7->∃m,m<n/\∃i p d,Ab X j p d l/\s i l.heap/\(∀b∈o,d b=none)/\W i m p d:=λ{a H7} I7 j=>by
   obtain⟨m',d,l⟩:=A a H7 j;refine{m',d,i+1,a,H7,I7.unpinned,T.keep _ _ _ h λb c o e=>(I7.pin (b,o) (Ey _ (Ey _ (en c e)))).1,λb c=>?_,l};obtain⟨o,e,d⟩:=T.obj _ _ h b c;exact(I7.pin (b,o) (Ey _ (Ey _ (en c e)))).2.1
  cases f with
  | next=>obtain⟨a,H7,I7,j⟩:=g;exact again I7 j
  | cont=>obtain⟨a,H7,I7,j⟩:=g;exact again I7 j
  | brk=>obtain⟨a,H7,I7,g⟩:=g;exact⟨a,H7,I7.unpinned,g⟩
  | ret v=>obtain⟨c,a,H7,I7,b,g⟩:=g;exact⟨c,a,H7,I7.unpinned,b,g⟩
abbrev R2:=V->V->Hp->VK->Prop
def AX(X:Cx)(f:Value->Value->Sem Value)(r:R2):Prop:=
 ∀(A3:List 'p') (s:Shared) (Y:St) (H:Hp) (x y:V) (v u:Value) (Q:VK),Ab X A3 Y H s->Aj x v->Aj y u->r x y H Q->
  wpAny 'e' X.A (f v u) (EP X A3 Y Q) X.xe s
instance UnR(X:Cx)(f:Value->Sem Value)(r:V->Hp->VK->Prop):Prop:=
 ∀(A3:List 'p') (s:Shared) (Y:St) (H:Hp) (x:V) (v:Value) (Q:VK),Ab X A3 Y H s->Aj x v->r x H Q->
  wpAny 'e' X.A (f v) (EP X A3 Y Q) X.xe s
def Co(X:Cx)(f:Value)(r:List V->Hp->VK->Prop):Prop:=
 ∀(A3:List 'p') (s:Shared) (Y:St) (H:Hp) (xs:List V) (us:List Value) (Q:VK),Ab X A3 Y H s->Aq xs us->r xs H Q->
  wpAny 'e' X.A (call f us) (EP X A3 Y Q) X.xe s
instance tOp(r:R2)(ta tb:TE):TE:=λY H Q=>ta Y H λx H1=>tb Y H1 λy H2=>r x y H2 Q
instance tUn(r:V->Hp->VK->Prop)(ta:TE):TE:=λY H Q=>ta Y H λx H1=>r x H1 Q
instance rI(C:Int->Int->Prop)(g:Int->Int->V):R2:=λx y H Q=>∃i j,x=.int i/\y=.int j/\C i j/\Q (g i j) H
def Ec(g:Int->Int->V):R2:=λx y H Q=>∃i j,x=.int i/\y=.int j/\Q (g i j) H
instance rU(g:Int->V):V->Hp->VK->Prop:=λx H Q=>∃i,x=.int i/\Q (g i) H
def fF(i:PE X a ta)(j:PE X b tb){d:List 'p'}{s:Shared}{Y:St}{H:Hp}{R:V->V->Hp->Prop}(I:Ab X d Y H s)(h:ta Y H λx H1=>tb Y H1 λy H2=>R x y H2){Q:Value->Shared->Prop}{f:Value->Value->Sem Value}(g:∀v u e x y H2,Ab X d Y H2 e->Aj x v->Aj y u->R x y H2->wpAny 'e' X.A (f v u) Q X.xe e) :
 wpAny 'e' X.A (eval a X.env) (λv c=>wpAny 'e' X.A (eval b X.env) (λu a=>wpAny 'e' X.A (f v u) Q X.xe a) X.xe c) X.xe s:=by
 refine ai (i d s Y H _ I h) λv a hI87=>?_
 obtain⟨x,H1,I1,b,c⟩:=hI87;refine ai (j d a Y H1 _ I1 c) λu e hI88=>?_
 obtain⟨y,H2,I2,a,c⟩:=hI88;exact g v u e x y H2 I2 b a c
def aM{c:Operator}{r:R2}(e:AX X (binaryOp c) r)(d:PE X a ta)(f:PE X b tb):PE X (.BinOp a c b pos) (tOp r ta tb):=by
 intro a s Y H Q I h;exact wpAny_BinOp (fF d f I h λv u b x y H2 I2 c d q=>e a b Y H2 x y v u Q I2 c d q)
def nH{b:UnaryOp}{r:V->Hp->VK->Prop}(d:UnR X (unaryOp b) r)(c:PE X a ta):PE X (.UnaryOp b a pos) (tUn r ta):=by
 intro a s Y H Q I h;exact UnaryOp_ (ai (c a s Y H _ I h) λv c ⟨x,H1,I1,b,e⟩=>d a c Y H1 x v Q I1 b e)
def opI{f:Value->Value->Sem Value}{C:Int->Int->Prop}{g:Int->Int->Int}(rule:∀(i j:Int) (t u:Tok) (s:Shared) (Q:Value->Shared->Prop) (E:Value->Shared->Prop),C i j->Q (.int (g i j) s.toks) { s with toks:=s.toks+1 }->wpAny 'e' X.A (f (.int i t) (.int j u)) Q E s) :
 AX X f (rI C λi j=>.int (g i j)):=by
 intro a s Y H x y v u Q I b d h;obtain⟨i,j,rfl,rfl,c,q⟩:=h;obtain⟨t,rfl⟩:=b;obtain⟨a,rfl⟩:=d;exact rule i j t a s _ _ c {.int (g i j),H,I.tok _,{_,rfl},q}
def iC{f:Value->Value->Sem Value}{g:Int->Int->Int}(rule:∀(i j:Int) (t u:Tok) (s:Shared) (Q:Value->Shared->Prop) (E:Value->Shared->Prop),Q (.int (g i j) s.toks) { s with toks:=s.toks+1 }->wpAny 'e' X.A (f (.int i t) (.int j u)) Q E s) :
 AX X f (Ec λi j=>.int (g i j)):=by
 intro a s Y H x y v u Q I b c h;obtain⟨i,j,rfl,rfl,q⟩:=h;obtain⟨t,rfl⟩:=b;obtain⟨a,rfl⟩:=c;exact rule i j t a s _ _ {.int (g i j),H,I.tok _,{_,rfl},q}
def eu{f:Value->Value->Sem Value}{g:Int->Int->Bool}(rule:∀(i j:Int) (t u:Tok) (s:Shared) (Q:Value->Shared->Prop) (E:Value->Shared->Prop),Q (.bool (g i j)) s->wpAny 'e' X.A (f (.int i t) (.int j u)) Q E s) :
 AX X f (Ec λi j=>.bl (g i j)):=by
 intro a s Y H x y v u Q I b c h;obtain⟨i,j,rfl,rfl,q⟩:=h;obtain⟨t,rfl⟩:=b;obtain⟨a,rfl⟩:=c;exact rule i j t a s _ _ {.bl (g i j),H,I,rfl,q}
def F2(i j:Int):Prop:=0<j/\j<1073741824
def Jo(i j:Int):Prop:=j≠0/\j.natAbs<1073741824
def HR(i j:Int):Prop:=0<=j/\j<=1000000/\i.natAbs<2 ^ 64
def DJ(i j:Int):Prop:=(-(2 ^ 64)<i/\i<2 ^ 64)\/(-(2 ^ 64)<j/\j<2 ^ 64)
def DJ.ok{i j:Int}(h:DJ i j):IntMulOk i j:=by
 rcases h with⟨a,b⟩ | ⟨a,b⟩
 ·exact .of_left (intBits_le_64 a b)
 ·exact .of_right (intBits_le_64 a b)
def cW:AX X (binaryOp .Add) (Ec λi j=>.int (i+j)):=iC λ_ _ _ _ _ _ _ q=>add_int q
def u4:AX X (binaryOp .Sub) (Ec λi j=>.int (i-j)):=iC λ_ _ _ _ _ _ _ q=>sub_int q
def ce:AX X (binaryOp .Mult) (rI DJ λi j=>.int (i*j)):=opI λ_ _ _ _ _ _ _ a q=>mul_int q a.ok
def nI:AX X (binaryOp .FloorDiv) (rI F2 λi j=>.int (i / j)):=opI λi j _ _ _ _ _ a q=>by
 have b:(0:Int)<j:=a.1;have b:j<1073741824:=a.2;exact floordiv_int 'o' (by rw[Int.fdiv_eq_ediv_of_nonneg i 'o'];exact q) (.inl (PyProof.noPylong_small 'o'))
def cD:AX X (binaryOp .Mod) (rI (λ_ j=>0<j) λi j=>.int (i % j)):=opI λi j _ _ _ _ _ a q=>by
 have b:(0:Int)<j:=a;exact mod_int' 'o' (by rw[Int.fmod_eq_emod_of_nonneg i 'o'];exact q)
def nJ:AX X (binaryOp .Pow) (rI HR λi j=>.int (i ^ j.toNat)):=opI λ_ _ _ _ _ _ _ a q=>pow_int_small a.1 a.2.1 a.2.2 q
def unI{f:Value->Sem Value}{g:Int->Int}(rule:∀(i:Int) (t:Tok) (s:Shared) (Q:Value->Shared->Prop) (E:Value->Shared->Prop),Q (.int (g i) s.toks) { s with toks:=s.toks+1 }->wpAny 'e' X.A (f (.int i t)) Q E s) :
 UnR X f (rU λi=>.int (g i)):=by
 intro a s Y H x v Q I a h;obtain⟨i,rfl,q⟩:=h;obtain⟨t,rfl⟩:=a;exact rule i t s _ _ {.int (g i),H,I.tok _,{_,rfl},q}
def nK:UnR X (unaryOp .USub) (rU λi=>.int (-i)):=unI λ_ _ _ _ _ q=>neg_int q
def iD{k k':Bool}(I:Ab X a Y H s)(q:Q (.bl k) H)(e:k=k'):EP X a Y Q (.bool k') s:=by
 subst e;exact{.bl k,H,I,rfl,q}
def u5:AX X (compareOp .Lt) (Ec λi j=>.bl (decide (i<j))):=eu λ_ _ _ _ _ _ _ q=>lt_int q
def u6:AX X (compareOp .LtE) (Ec λi j=>.bl (decide (i<=j))):=eu λ_ _ _ _ _ _ _ q=>le_int q
def u7:AX X (compareOp .Gt) (Ec λi j=>.bl (decide (j<i))):=eu λ_ _ _ _ _ _ _ q=>gt_int q
def nL:AX X (compareOp .GtE) (Ec λi j=>.bl (decide (j<=i))):=eu λ_ _ _ _ _ _ _ q=>ge_int q
def u8:AX X (compareOp .Is) (λx y H Q=>y=.non/\Q (.bl (decide (x=.non))) H):=by
 intro a s Y H x y v u Q I a b h;obtain⟨rfl,q⟩:=h;cases b;refine is_none_gen (iD I q ?_);cases x<;>first
  | (cases a;rfl)
  | (obtain⟨t,rfl⟩:=a;rfl)
def u9:AX X (compareOp .IsNot) (λx y H Q=>y=.non/\Q (.bl (!decide (x=.non))) H):=by
 intro a s Y H x y v u Q I a b h;obtain⟨rfl,q⟩:=h;cases b;refine isnot_none_gen (iD I q ?_);cases x<;>first
  | (cases a;rfl)
  | (obtain⟨t,rfl⟩:=a;rfl)
def AX.or(h:AX X f r)(d:AX X f r'):AX X f (λx y H Q=>r x y H Q\/r' x y H Q):=by
 intro c s Y H x y v u Q I a b q;rcases q with q | q
 ·exact h c s Y H x y v u Q I a b q
 ·exact d c s Y H x y v u Q I a b q
def iE(b:Expr)(h:autoParam (op≠.In) uD)(d:autoParam (op≠.NotIn) uD):behindInMarks op b=false:=by
 have a:(op == CmpOp.In)=false:=by cases op<;>first | rfl | exact absurd rfl h
 have c:(op == CmpOp.NotIn)=false:=by cases op<;>first | rfl | exact absurd rfl d
 cases b<;>simp[behindInMarks,a,c]
def nM(d:AX X (compareOp op) r)(c:PE X a ta)(g:PE X b tb)(f:behindInMarks op b=false):PE X (.Compare a [op] [b] pos) (tOp r ta tb):=by
 intro a s Y H Q I h;exact wpAny_Compare1 (fF c g I h λv u e x y H2 I2 b c q=>d a e Y H2 x y v u Q I2 b c q) f
def Ko(t:TE):TT:=λY H Q=>t Y H λx H'=>∃k,x=.bl k/\Q k H'
def fG{c:CmpOp}{r:R2}(g:AX X (compareOp c) r)(d:PE X a ta)(e:PE X b tb)(f:behindInMarks c b=false):PT X (.Compare a [c] [b] pos) (Ko (tOp r ta tb)):=by
 intro a s Y H Q I h;refine wpAny_isTrue_Compare1 (ai (d a s Y H _ I h) λv c ⟨x,H1,I1,d,b⟩=>ai (e a c Y H1 _ I1 b) λu c ⟨y,H2,I2,b,e⟩=>ai (g a c Y H2 x y v u _ I2 d b e) λc a hI89=>?_) f;obtain⟨z,H3,I3,b,k,e,a⟩:=hI89;subst e;cases b;exact D6 ⟨H3,I3,a⟩
def Jp(r r':R2)(ta tb tc:TE):TE:=λY H Q=>ta Y H λx H1=>tb Y H1 λy H2=>r x y H2 λz H3=>∃k,z=.bl k/\
 (if k=true then tc Y H3 λw' H4=>r' y w' H4 Q else Q (.bl false) H3)
def nN{e d:CmpOp}{r r':R2}(i:AX X (compareOp e) r)(f:AX X (compareOp d) r')(g:PE X a ta)(m:PE X b tb)(j:PE X c tc)(l:lastMarks [e,d] [b,c]=false:=by with_unfolding_all rfl):PE X (.Compare a [e,d] [b,c] pos) (Jp r r' ta tb tc):=by
 intro a s Y H Q I h;refine Compare_chain (ai (g a s Y H _ I h) λv b ⟨x,H1,I1,c,d⟩=>chain_link (ai (m a b Y H1 _ I1 d) λu e ⟨y,H2,I2,b,h⟩=>ai (i a e Y H2 x y v u _ I2 c b h) λd g hI90=>?_)) l;obtain⟨z,H3,I3,d,k,e,c⟩:=hI90;subst e;cases d;refine D6 ?_;cases k with
 | false=>exact ite_ff {.bl false,H3,I3,rfl,c}
 | true=>exact ite_tt (chain_last (ai (j a g Y H3 _ I3 c) λw' g ⟨z',d,I4,c,e⟩=>f a g Y d y z' u w' Q I4 b c e))
def cX:(sizeLine:Nat)<2 ^ 63:=by rw[sizeLine_eq];decide
def bq(r:Aq [x] us):∃u,us=[u]/\Aj x u:=by
 cases r with
 | cons b a=>cases a;exact{_,rfl,b}
def fH(r:Aq [x,y] us):∃u w',us=[u,w']/\Aj x u/\Aj y w':=by
 cases r with
 | cons c b=>
   cases b with
   | cons a d=>cases d;exact{_,_,rfl,c,a}
def vb(a:X.calm=true):Co X (.builtin "min") (λb H Q=>∃i j,b=[.int i,.int j]/\Q (.int (if j<i then j else i)) H):=by
 intro c s Y H b us Q I r h;obtain⟨i,j,rfl,q⟩:=h;obtain⟨u,w',rfl,⟨t,rfl⟩,⟨c,rfl⟩⟩:=fH r;refine min_two_ints (I.ok.hd a) λd c k=>{_,H,I.kept k,?_,q}
 by_cases a:j<i
 ·rw[if_pos a,if_pos a];exact{_,rfl}
 ·rw[if_neg a,if_neg a];exact{_,rfl}
def vc:Co X (.type "int") (λa H Q=>(∃i,a=[.int i]/\Q (.int i) H)\/∃k,a=[.bl k]/\Q (.int (if k then 1 else 0)) H):=by
 intro b s Y H a us Q I r h;rcases h with⟨i,rfl,q⟩ | ⟨k,rfl,q⟩
 ·obtain⟨u,rfl,t,rfl⟩:=bq r
  exact call_int_int {.int i,H,I,{_,rfl},q}
 ·obtain⟨u,rfl,b⟩:=bq r
  cases b;exact call_int_bool {.int (if k then 1 else 0),H,I.tok _,{_,rfl},q}
def nO:Co X (.builtin "divmod") (λa H Q=>∃i j,a=[.int i,.int j]/\F2 i j/\∀p,H p=none->Q (.ref p) (Ad H p (.tup [.int (i / j),.int (i % j)]))):=by
 intro b s Y H a us Q I r h;obtain⟨i,j,rfl,⟨b,c⟩,q⟩:=h;obtain⟨u,w',rfl,⟨t,rfl⟩,⟨b,rfl⟩⟩:=fH r;refine divmod_int 'o' ?_ (.inl (PyProof.noPylong_small 'o'));rw[Int.fdiv_eq_ediv_of_nonneg i 'o',Int.fmod_eq_emod_of_nonneg i 'o'];have c:H s.heap.objs.size=none:=I.hok.fresh (Am _);refine{.ref s.heap.objs.size,_,?_,rfl,q _ c};refine I.laid (λb o e=>AM _ e) (Am _) {by simp only[B4,FY];rw[sizeLine_eq];decide,[.int (i / j) s.toks,.int (i % j) (s.toks+1)],.cons {_,rfl} (.cons {_,rfl} .nil),?_};exact{{_,Bi s.heap rfl,rfl,0,rfl},{_,Bi _ rfl,rfl}}
structure HS(h:Heap)(x dx C:Addr)(mA:Str->Option Value):Prop where
 obj:h.get? x=some (PySem.W.instObj C dx)
 ns:h.Ns1 dx mA
 ne:dx≠x
open H in
def nP{h:Heap}{dx:Addr}{mA:Str->Option Value}(n:h.Ns1 dx mA):∃b,h.get? dx=some b/\∀a,PySem.W.lookIn a b=some (mA a):=by
 obtain⟨o,es,e,b,c,d,_,f⟩:=n;refine{o,b,λa=>?_};have e:=f a;unfold nsFind findBy at e;rw[<-Array.find?_toList] at e;unfold PySem.W.lookIn;rw[c];dsimp only;split
 ·rename_i y q
  rw[q] at e;exact congrArg some e
 ·rename_i q
  rw[q] at e;have a:es.toList.any (·.refKey)=false:=by
   rw[List.any_eq_false];intro y c;obtain⟨z,t,b⟩:=d y (Array.mem_toList_iff.mp c);simp[DictEntry.refKey,b]
  have c:¬es.toList.any (·.refKey)=true:=by rw[a];exact BA
  rw[if_neg c];exact congrArg some e
def HS.look(I:HS h x dx C mA):∃b,PySem.W.InstAt h x (PySem.W.instObj C dx) C (some b)/\∀a,PySem.W.lookIn a b=some (mA a):=
 let ⟨b,d,c⟩:=nP I.ns
 {b,⟨I.obj,rfl,rfl,d⟩,c}
section
variable{prog:Program}{w:World}{A:Around}{E:Value->Shared->Prop}{s:Shared}{K:FG}{x dx C f:Addr}{mA:Str->Option Value}{name:Str}{v:Value}
end
theorem DH.some_of(r:DH (some v) o):∃u,o=some u/\Aj v u:=by
 cases o with
 | none=>exact(show False from r).elim
 | some u=>exact⟨u,rfl,r⟩
def nQ(b:Bd P w H h)(e:H a=some (.ins C dx fs)):∃mA,HS h a dx C mA/\(∀f,DH (fs.lookup f) (mA f))/\PySem.Within mA (fs.map (·.1))/\fs.length<=1000/\H dx=some (.own a):=by
 obtain⟨d,z,f,c,mA,n,r,q⟩:=(show Bb P w H h a (.ins C dx fs) from b a _ e);exact{mA,⟨c,n,f⟩,r,q,z,d}
structure Cls(K:FG)(C:Addr):Prop where
 pg:PySem.W.plainGet K C Str.empty=true
 hd:PySem.W.hasDictIn K C=true
 po:PySem.W.plainOver K C=true
 sa:PySem.W.findIn K (.ref C) "__setattr__" = some (some (.builtin "object.__setattr__"))
def Cls.get{K:FG}{C:Addr}(c:Cls K C)(f:Str):PySem.W.plainGet K C f=true:=c.pg
section
variable{f:Str}{X:Cx}{A3:List 'p'}{Y:St}{H:Hp}{s:Shared}{A:Around}{E Q:Value->Shared->Prop}{c:Value}{b:Bool}
inductive DV(K:FG)(H:Hp):V->Value->Prop where
 | non:DV K H .non (.type "NoneType")
 | bl (x:Bool):DV K H (.bl x) (.type "bool")
 | int (i:Int):DV K H (.int i) (.type "int")
 | str (x:Str):DV K H (.str x) (.type "str")
 | flt (x:UInt64):DV K H (.flt x) (.type "float")
 | lst {a:Addr} {xs:List V} (e:H a=some (.lst xs)):DV K H (.ref a) (.type "list")
 | frz {a:Addr} {o:Obj} {xs:List V} (e:H a=some (.frz o (.lst xs))):DV K H (.ref a) (.type "list")
 | tup {a:Addr} {xs:List V} (e:H a=some (.tup xs)):DV K H (.ref a) (.type "tuple")
 | dK {a:Addr} {kvs:List (Au×V)} (e:H a=some (.dK kvs)):DV K H (.ref a) (.type "dict")
 | dT {a:Addr} {kvs:List (List Ak×V)} (e:H a=some (.dT kvs)):DV K H (.ref a) (.type "dict")
 | ins {a C dx:Addr} {fs:List (Str×V)} (e:H a=some (.ins C dx fs)) (cl:Cls K C) (ha:PySem.W.findIn K (.ref C) "__class__" = some (some (.builtin "object.__class__")))
  (hn:PySem.W.specialIn K (.builtin "object.__class__") "__get__" = some (some (.builtin "getset_descriptor.__get__"))) (htk:PySem.W.takesIn K (.builtin "object.__class__")=some true)
  (hm:PySem.W.mroIn K C (.type "object")=some true):DV K H (.ref a) (.ref C)
def bR(I:Ab X A3 Y H s)(d:Aj x u)(g:DV X.K H x t)(e:PySem.W.kitOne X.K t c=some b)(h:∀a,Q (.bool b) { s with toks:=a }) :
 wpAny 'e' A (call (.builtin "isinstance") [u,c]) Q E s:=by
 cases g with
 | non=>cases (show u=Value.none from d);exact PySem.W.kia_one PySem.W.kitx_none I.kIn True.intro e (λz=>nomatch z) h
 | bl y=>cases (show u=Value.bool y from d);exact PySem.W.kia_one PySem.W.kitx_bool I.kIn True.intro e (λz=>nomatch z) h
 | int i=>obtain⟨t,q⟩:=(show ∃t,u=Value.int i t from d);cases q;exact PySem.W.kia_one PySem.W.kitx_int I.kIn True.intro e (λz=>nomatch z) h
 | str y=>obtain⟨t,q⟩:=(show ∃t,u=Value.str y t from d);cases q;exact PySem.W.kia_one PySem.W.kitx_str I.kIn True.intro e (λz=>nomatch z) h
 | flt y=>obtain⟨t,q⟩:=(show ∃t,u=Value.float y t from d);cases q;exact PySem.W.kia_one PySem.W.kitx_float I.kIn True.intro e (λz=>nomatch z) h
 | @lst a l g=>
   cases (show u=Value.ref a from d);obtain⟨_,_,n,_,i⟩:=(show Bb X.prog X.w H s.heap a (.lst l) from I.hok a _ g);exact PySem.W.kia_one PySem.W.kitx_list I.kIn {_,i,rfl} e (λz=>nomatch z) h
 | @frz a j l g=>
   cases (show u=Value.ref a from d);obtain⟨_,_,_,n,_,i⟩:=(show Bb X.prog X.w H s.heap a (.frz j (.lst l)) from I.hok a _ g);exact PySem.W.kia_one PySem.W.kitx_list I.kIn {_,i,rfl} e (λz=>nomatch z) h
 | @tup a l g=>
   cases (show u=Value.ref a from d);obtain⟨_,_,_,p,_⟩:=(show Bb X.prog X.w H s.heap a (.tup l) from I.hok a _ g);obtain⟨o,i,m,_⟩:=p;exact PySem.W.kia_one PySem.W.kitx_tuple I.kIn ⟨o,i,m⟩ e (λz=>nomatch z) h
 | @dK a j g=>
   cases (show u=Value.ref a from d);obtain⟨_,_,n,_,p⟩:=(show Bb X.prog X.w H s.heap a (.dK j) from I.hok a _ g);obtain⟨o,es,n,i,m,_⟩:=p;exact PySem.W.kia_one PySem.W.kitx_dict I.kIn ⟨o,i,m.1⟩ e (λz=>nomatch z) h
 | @dT a j g=>
   cases (show u=Value.ref a from d);obtain⟨_,_,l,_,o,es,n,i,m,_⟩:=(show Bb X.prog X.w H s.heap a (.dT j) from I.hok a _ g);exact PySem.W.kia_one PySem.W.kitx_dict I.kIn ⟨o,i,m.1⟩ e (λz=>nomatch z) h
 | @ins a C dx o g j m l i n=>
   cases (show u=Value.ref a from d);obtain⟨mA,O,_⟩:=nQ I.hok g;obtain⟨a,J,_⟩:=O.look;exact PySem.W.kia_one (PySem.W.kitx_own (j.get _) j.hd m l i n) I.kIn J e (λz=>nomatch z) h
end
structure AQ(k:Nat)(A:Around):Prop where
 hd:A.handled=none
 dp:A.depth+3*k+5<recursionLimit
 un:A.units+16*k+200<cLine
 gd:A.guards=some []
def AQ.mono{j k:Nat}(r:AQ k A)(h:j<=k):AQ j A:={r.hd,by have:=r.dp;omega,by have:=r.un;omega,r.gd}
def AQ.deeper{k:Nat}(r:AQ (k+1) A)(env:Env):AQ k (A.deeper env):=
 {r.hd,by have:=r.dp;show A.depth+1+3*k+5<_;omega,by have:=r.un;show A.units+3+16*k+200<_;omega,r.gd}
def AQ.depth{k:Nat}(r:AQ k A):A.depth<recursionLimit:=by have:=r.dp;omega
def AQ.units{k:Nat}(r:AQ k A):A.units+64<cLine:=by have:=r.un;omega
def FC:TA:=λ_ H Q=>Q [] H
def DX(ta:TE)(tr:TA):TA:=λY H Q=>ta Y H λx H1=>tr Y H1 λxs H2=>Q (x::xs) H2
def bg:PA X [] FC:=λ_ _ _ _ H Q I h=>Calls.spliced_nil {[],H,I,.nil,h}
def aT(b:PE X e te)(f:PA X es t)(c:autoParam 's' uR):PA X (e::es) (DX te t):=by
 intro pos a s Y H Q I h;rw[c];show wpAny _ _ (spliced ((false,eval e X.env)::backTo pos (starEach es X.env))) _ _ s;refine Calls.spliced_cons (ai (b a s Y H _ I h) λu c hI91=>?_);obtain⟨x,H1,I1,b,d⟩:=hI91;exact ai (f pos a c Y H1 _ I1 d) λus e ⟨c,H2,I2,a,d⟩=>{x::c,H2,I2,.cons b a,d}
def Kp(t:TA):TE:=λY H Q=>t Y H λxs H1=>xs.length<=sizeLine/\∀p,H1 p=none->Q (.ref p) (Ad H1 p (.tup xs))
def Jq(t:TA):TE:=λY H Q=>t Y H λxs H1=>xs.length<=sizeLine/\∀p,H1 p=none->Q (.ref p) (Ad H1 p (.lst xs))
def iF{x1}(h:PA X es t):PE X (.Tuple es x1 pos) (Kp t):=by
 intro a s Y H Q I b;refine wpAny_Tuple_spliced (ai (h pos a s Y H _ I b) λus a ⟨d,H1,I1,r,z,q⟩=>{by rw[<-r.length];exact z,?_});have c:H1 a.heap.objs.size=none:=I1.hok.fresh (Am _);refine{.ref a.heap.objs.size,Ad H1 a.heap.objs.size (.tup d),I1.laid (t':=a.toks) (λb u e=>AM _ e) (Am _) ?_,rfl,q _ c};exact{z,us,r,{_,Bi _ rfl,rfl,_,rfl},{_,Bi _ rfl,rfl}}
def fJ(h:PA X es t):PE X (.List es pos) (Jq t):=by
 intro a s Y H Q I b;refine wpAny_List_spliced (ai (h pos a s Y H _ I b) λus a ⟨d,H1,I1,r,z,q⟩=>{by rw[<-r.length];exact z,?_});have c:H1 a.heap.objs.size=none:=I1.hok.fresh (Am _);refine{.ref a.heap.objs.size,Ad H1 a.heap.objs.size (.lst d),I1.laid (t':=a.toks) (λb u e=>AM _ e) (Am _) ?_,rfl,q _ c};exact{z,us,0,r,Bi _ rfl}
abbrev Sp:=List V->Hp->VK->XK->Prop
abbrev EI:=List Env->Hp->Shared->XK->Value->Shared->Prop
structure GF(P:Program)(w:World)(K:FG)(mg:Str->Option Value)(base:Heap)(A:Around)(outer:List Env)(s:Shared)(H:Hp):Prop where
 frames:A.frames=some outer
 mod:Mod K mg base
 bs:∀b o,base.get? b=some o->s.heap.get? b=some o/\H b=none
 bsz:base.objs.size<=s.heap.objs.size
 funs:s.heap.FunFrames base outer
 frf:∀b∈EH outer,H b=none
 hok:Bd P w H s.heap
 bare:AllBare s.gens
instance CE(outer:List Env)(P:Program)(w:World)(H:Hp)(s:Shared)(Q:VK)(u:Value)(s':Shared):Prop:=
 ∃v H',s'.os=s.os/\AllBare s'.gens/\Un (EH outer) [] H H' s.heap s'.heap/\Bd P w H' s'.heap/\Aj v u/\Q v H'
instance CR(CX:EI)(outer:List Env)(P:Program)(w:World)(H:Hp)(s:Shared)(Q:VK)(E:XK)(r:Result)(s':Shared):Prop:=
 match r with
 | .ok (.ret u)=>CE outer P w H s Q u s'
 | .ok _=>False
 | .error e=>CX outer H s E e s'
structure BS(P:Program)(w:World)(K:FG)(mg:Str->Option Value)(base:Heap)(CX:EI)(k:Nat)(f:Addr)(fd:FuncData)(ps:List Str)(sp:Sp):Prop where
 len:∀vs H Q E,sp vs H Q E->vs.length=ps.length
 run:∀(A:Around) (outer:List Env) (s:Shared) (H:Hp) (args:Args) (us:List Value) (vs:List V) (Q:VK) (E:XK),AQ k A->GF P w K mg base A outer s H->BindsTo s fd args (ps.zip us)->Aq vs us->sp vs H Q E->
  codeAny (model P w) A (.call (.ref f) args) (CR CX outer P w H s Q E) s
def BS.mono{P:Program}{w:World}{K:FG}{c:Str->Option Value}{a:Heap}{d:EI}{j k:Nat}{f:Addr}{e:FuncData}{g:List Str}{b:Sp}(F:BS P w K c a d j f e g b)(h:j<=k) :
 BS P w K c a d k f e g b:={F.len,λA a s H b us c Q E d=>F.run A a s H b us c Q E (d.mono h)}
def Ab.env0(I:Ab X a Y H s):GF X.prog X.w X.K X.mg X.base X.A X.stack s H:=
 {I.ok.frames,I.ok.mod,I.bs,Az I.ok.bsz I.sz,I.stack,I.stkFree,I.hok,I.bare}
def Ab.after(I:Ab X i Y H s)(h:CE X.stack X.prog X.w H s Q u s'):EP X i Y Q u s':=by
 obtain⟨v,l,e,a,f,c,r,q⟩:=h;obtain⟨j,g,d,t,b⟩:=s';obtain rfl:b=s.os:=e;exact{v,l,I.call (h':=j) (g':=g) (d':=d) (t':=t) (ch:=[]) f c a (λb z=>absurd z 'd'),r,q}
def F5(sp:Sp)(dvs:List V)(E:XK)(t:TA):TE:=λY H Q=>t Y H λvs H1=>sp (vs++dvs) H1 Q E
def F7(K:FG)(fd:FuncData)(ps:List Str)(ds:List Value):Prop:=
 ∀(s:Shared) (us:List Value),K.In s.heap->(us++ds).length=ps.length->BindsTo s fd {us,[]} (ps.zip (us++ds))
def F7.all{K:FG}{a:FuncData}{ps:List Str}(h:∀us:List Value,us.length=ps.length->bindArgs a {us,[]}=pure (ps.zip us)):F7 K a ps []:=λs us _ a=>by
 rw[Ck] at a ⊢;exact .of_eq (h us a)
def HU(CX:EI)(X:Cx)(E:XK):Prop:=∀(A3:List 'p') (Y:St) (H:Hp) (s:Shared) (e:Value) (s':Shared),Ab X A3 Y H s->CX X.stack H s E e s'->X.xe e s'
section
variable{X:Cx}{CX:EI}{k:Nat}{f C:Addr}{fd:FuncData}{ps:List Str}{sp:Sp}{dvs:List V}{ds:List Value}{E:XK}{x m:Str}{p pos apos:Pos}{e o:Expr}{es:List Expr}{ta:TE}{t:TA}{ks:List Str}{kpos:Pos}{kws:List Keyword}{te:TE}{tk:TA}{nm:Option Str}
open H in
def nR{c:List 'p'}{Y:St}{H:Hp}{s:Shared}{Q:VK}{us:List Value}{b:List V}(F:BS X.prog X.w X.K X.mg X.base CX k f fd ps sp)(l:AQ k X.A)(j:F7 X.K fd ps ds)(a:Aq dvs ds)(g:HU CX X E)(I:Ab X c Y H s)(r:Aq b us)(h:sp (b++dvs) H Q E):wpAny 'e' X.A (call (.ref f) us) (EP X c Y Q) X.xe s:=by
 have d:Aq (b++dvs) (us++ds):=r.append a;have i:(us++ds).length=ps.length:=by rw[<-d.length];exact F.len _ _ _ _ h
 refine wpAny_call (codeAny_mono (F.run X.A X.stack s H {us,[]} (us++ds) (b++dvs) Q E l I.env0 (j s us I.kIn i) d h) λr s' a=>?_);cases r with
 | error e=>exact g c Y H s e s' I a
 | ok d=>
   cases d with
   | ret u=>exact I.after a
   | next=>exact False.elim a
   | brk=>exact False.elim a
   | cont=>exact False.elim a
def cY(F:BS X.prog X.w X.K X.mg X.base CX k f fd ps sp)(v:AQ k X.A)(n:Gl X x)(q:X.mg x=some (.ref f))(g:keepIn X.K (.ref f)=true)(u:F7 X.K fd ps ds)(j:Aq dvs ds)(c:HU CX X E)(i:PA X (e::es) t)(a:autoParam 'u' uD)(l:autoParam 's' uR)(b:autoParam 'i' uR) :
 PE X (.Call (.Name x p) (e::es) [] pos) (F5 sp dvs E t):=by
 intro d s Y H Q I h;refine wpAny_Call_Name_kw (ix I n q ?_ a);refine PySem.W.callWith_K (h₀:=X.base) I.ok.mod.kin g (ai (i pos d s Y H _ I h) λus a ⟨d,H1,I1,r,q⟩=>{I1.kIn,?_}) l b;exact nR F v u j c I1 r q
end
structure CQ(N P:List Str)(sc:Scope):Prop where
 kind:sc.kind=.function
 co:sc.isCoroutine=false
 gen:sc.isGenerator=false
 nd:N.Nodup
 pre:N.take P.length=P
 par:∀x∈P,sc.names.lookup x=some .local\/sc.names.lookup x=some .cell
 nofree:∀y∈sc.names,y.2≠.free
theorem iG{kindOf:Str->Option NameKind}{x:Str}:∀{a:List (Str×Value)} {m:Str->Option Value},(∀v,(x,v)∉a)->bindL kindOf a m x=m x
 | [],_,_=>rfl
 | (n,v)::r,m,h=>by
   unfold bindL;rw[iG λw a=>h w (EA _ a)];split
   ·have:x≠n:=by rintro rfl;exact h v EW
    simp[this]
   ·rfl
theorem iH{kindOf:Str->Option NameKind}{x:Str}:∀{a:List (Str×Value)} {m:Str->Option Value},(∀v,(x,v)∉a)->bindC kindOf a m x=m x
 | [],_,_=>rfl
 | (n,v)::r,m,h=>by
   unfold bindC;rw[iH λw a=>h w (EA _ a)];split
   ·rfl
   ·have:x≠n:=by rintro rfl;exact h v EW
    simp[this]
theorem iI{kindOf:Str->Option NameKind}{x:Str}{v:Value}:∀{P:List Str} {a:List Value} {i:Nat} {m:Str->Option Value},P.Nodup->P[i]?=some x->a[i]?=some v->kindOf x=some .local->
 bindL kindOf (P.zip a) m x=some v
 | [],_,_,_,_,h,_,_=>by simp at h
 | _::_,[],_,_,_,_,h,_=>by simp at h
 | p::P,w::a,0,m,d,b,c,e=>by
   simp at b c;subst b;subst c;show bindL kindOf ((p,w)::P.zip a) m p=_;unfold bindL;rw[iG λv f=>(Fe.mp d).1 (List.of_mem_zip f).1,if_pos e];simp
 | p::P,w::a,i+1,m,d,b,c,e=>by
   show bindL kindOf ((p,w)::P.zip a) m x=_;unfold bindL;exact iI (i:=i) (Fe.mp d).2 (by simpa using b) (by simpa using c) e
theorem iJ{kindOf:Str->Option NameKind}{x:Str}{v:Value}:∀{P:List Str} {a:List Value} {i:Nat} {m:Str->Option Value},P.Nodup->P[i]?=some x->a[i]?=some v->kindOf x≠some .local->
 bindC kindOf (P.zip a) m x=some v
 | [],_,_,_,_,h,_,_=>by simp at h
 | _::_,[],_,_,_,_,h,_=>by simp at h
 | p::P,w::a,0,m,d,b,c,e=>by
   simp at b c;subst b;subst c;show bindC kindOf ((p,w)::P.zip a) m p=_;unfold bindC;rw[iH λv f=>(Fe.mp d).1 (List.of_mem_zip f).1,if_neg e];simp
 | p::P,w::a,i+1,m,d,b,c,e=>by
   show bindC kindOf ((p,w)::P.zip a) m x=_;unfold bindC;exact iJ (i:=i) (Fe.mp d).2 (by simpa using b) (by simpa using c) e
def B0(N:List Str)(vs:List V):St:=vs.map some++List.replicate (N.length-vs.length) none
def Cs(CX:EI)(P:Program)(w:World)(K:FG)(mg:Str->Option Value)(base:Heap)(N:List Str)(qual:Str)(scope:Scope)(f:Addr)(cd:Value)(A:Around)(outer:List Env)(s:Shared)(H:Hp)(E:XK):Cx where
 prog:=P
 w:=w
 K:=K
 mg:=mg
 base:=base
 A:=A.deeper (envOfC qual scope s.heap.objs.size f cd)
 N:=N
 s₀:=s
 H₀:=H
 env:=envOfC qual scope s.heap.objs.size f cd
 outer:=outer
 stack:=envOfC qual scope s.heap.objs.size f cd::outer
 ex:=[]
 calm:=true
 fn:=λ_=>true
 pn:=[]
 xe:=λe s'=>wpAny (model P w) (A.deeper (envOfC qual scope s.heap.objs.size f cd)) (leaving (envOfC qual scope s.heap.objs.size f cd) e) (λ_ s''=>CX outer H s E e s'') (λe' s''=>CX outer H s E e' s'') s'
def iK{a:Scope}{n:Nat}{x:Str}(h:a.names.lookup x=some .cell):∃c,(cellsFrom n a.names []).lookup x=some c:=by
 have q:=PySem.W.cellsFrom_some a.names n [] (.inl h);exact Option.isSome_iff_exists.mp q
def nS{p:EI}{P:Program}{w:World}{K:FG}{i:Str->Option Value}{d:Heap}{N l:List Str}{c:Str}{scope:Scope}{f:Addr}{h:Value}{A:Around}{a:List Env}{s b:Shared}{H:Hp}{E:XK}{us:List Value}{j:List V}(S:CQ N l scope)(q:A.handled=none)(g:GF P w K i d A a s H)(e:j.length=l.length)(r:Aq j us)(x:InCallC s s.heap.objs.size (bindL (envOfC c scope s.heap.objs.size f h).kindOf (l.zip us) λ_=>none) (cellsFrom (s.heap.objs.size+1) scope.names []) (bindC (envOfC c scope s.heap.objs.size f h).kindOf (l.zip us) λ_=>none) b) :
 Ab (Cs p P w K i d N c scope f h A a s H E) [] (B0 N j) H b:=by
 have e:l.length<=N.length:=by have:=congrArg List.length S.pre;rw[C7] at this;omega
 obtain⟨m,b,rfl,o⟩:=x.done;have e:∀b:Addr,b∉(Cs p P w K i d N c scope f h A a s H E).ex:=λb z=>absurd (show b∈([]:List Addr) from z) 'd'
 refine{{g.mod,S.kind,rfl,rfl,Am _,λy z c m d=>?_,λy a=>?_,λy c _ h=>?_,λ_=>q,Around.frames_deeper g.frames,.inr ⟨rfl,rfl⟩,λb z=>absurd z (e b),g.bs,g.bsz,λb _ _=>e b,λb z=>absurd z (e b),g.funs,g.frf},rfl,g.bare,Un.kept o,{_,x.toInCall.ns,λi y v m d b=>?_},λy c h=>{_,x.cell y c h},g.hok.fresh (Am _),λy c h=>?_,λp b=>absurd (show p∈([]:List 'p') from b) 'd',g.hok.kept o,?_}
 ·exact name_of_addr x.apart (PySem.mem_of_lookup m) (PySem.mem_of_lookup d)
 ·have a:scope.names.lookup y=some .cell\/scope.names.lookup y=some .free:=a
  rcases a with a | a
  ·exact iK a
  ·exact absurd rfl (S.nofree _ (PySem.mem_of_lookup a))
 ·exact BC (x.above y c (PySem.mem_of_lookup h))
 ·have a:i<j.length:=by
   unfold B0 at d;by_cases a:i<j.length
   ·exact a
   ·rw[G9 (by simpa using a)] at d
    rw[He] at d;split at d<;>cases d
  have o:j[i]?=some v:=by
   unfold B0 at d;rw[EU (by simpa using a),AT] at d;cases e:j[i]? with
   | none=>rw[e] at d;cases d
   | some a=>rw[e] at d;cases d;rfl
  obtain⟨u,f,p⟩:=r.get o;have b:l[i]?=some y:=by
   rw[<-S.pre,List.getElem?_take_of_lt 'o'];exact m
  have a:l.Nodup:=by rw[<-S.pre];exact S.nd.sublist (List.take_sublist _ _)
  refine{u,p,?_};rcases S.par y (BI b) with k | k
  ·exact .inl {k,iI a b f k}
  ·obtain⟨c,e⟩:=iK (n:=s.heap.objs.size+1) k
   refine .inr {.inl k,c,e,?_};have q:=x.cell y c e;rw[iJ a b f (by show scope.names.lookup y≠_;rw[k];decide)] at q;exact q
 ·exact g.hok.fresh (BC (x.above y c (PySem.mem_of_lookup h)))
 ·unfold B0
  show _=N.length;rw[A8,Ag,Gy];omega
open H in
def nT{z:EI}{P:Program}{w:World}{K:FG}{B:Str->Option Value}{g:Heap}{k:Nat}{f:Addr}{i c:Str}{b:Arguments}{e:List Stmt}{scope:Scope}{p kV m r d y l:Value}{C j:Option Addr}{a:Array (Option Value)}{N q:List Str}{o:Sp}(M:K.lookup f=some {l,j,.func (fnOf i c b e scope p kV m r C d y),a})(x:codeIn K d c=true)(S:CQ N q scope)(n:∀h H Q E,o h H Q E->h.length=q.length)(l:∀(A:Around) (a:List Env) (s:Shared) (H:Hp) (h:List V) (Q:VK) (E:XK),AQ k (A.deeper (envOfC c scope s.heap.objs.size f d))->o h H Q E->
  ∃t,CA (Cs z P w K B g N c scope f d A a s H E) e t/\t { nx:=λ_ j=>Q .non j,rt:=Q } (B0 N h) H) :
 BS P w K B g z (k+1) f (fnOf i c b e scope p kV m r C d y) q o:=by
 refine{n,λA a s H b us h Q E G m O r p=>?_};have J:=n _ _ _ _ p;have I:K.In s.heap:=m.mod.kin.keeps λb o e=>(m.bs b o e).1
 have C:s.heap.NoLimit:=m.mod.nolimit.keeps λb o e=>(m.bs b o e).1
 have i:∀y∈q.zip us,scope.names.lookup y.1=some .local\/(scope.names.lookup y.1=some .cell/\((cellsFrom (s.heap.objs.size+1) scope.names []).lookup y.1).isSome=true):=λhI2 b=>by
  obtain⟨n,v⟩:=hI2;rcases S.par n (List.of_mem_zip b).1 with q | q
  ·exact .inl q
  ·exact .inr {q,PySem.W.cellsFrom_some _ _ _ (.inl q)}
 refine codeAny_call_function G.depth (I _ _ M) rfl S.co S.gen rfl (PySem.W.codeRec_of I x) (O _ _ _ _ ?_);refine wpAny_newFunctionEnv_cells S.kind i λenv n b x=>?_
 subst n;refine{C.keeps x.toInCall.keep,codeAny_func ?_};obtain⟨t,i,n⟩:=l A a s H h Q E (G.deeper _) p;have I:Ab (Cs z P w K B g N c scope f d A a s H E) [] (B0 N h) H b:=nS S G.hd m J r x;refine C4 (i [] b (B0 N h) H _ I n) (λi s' b=>?_) λe s' b=>b
 have fin:∀{e:St} {j:Hp} {v:V} {u:Value},Ab (Cs z P w K B g N c scope f d A a s H E) [] e j s'->Aj v u->Q v j->CE a P w H s Q u s':=
  λ{e j v u} J a q=>⟨v,j,J.os,J.bare,J.base,J.hok,a,q⟩
 cases i with
 | ret u=>
   obtain⟨v,e,j,J,a,q⟩:=b;exact fin J a q
 | next=>
   obtain⟨e,j,J,q⟩:=b;exact fin (v:=V.non) (u:=Value.none) J rfl q
 | brk=>
   obtain⟨_,_,_,q⟩:=b;exact False.elim q
 | cont=>
   obtain⟨_,_,_,q⟩:=b;exact False.elim q
section
variable{x:Str}{id T:String}
instance tCB(r:List V->Hp->VK->Prop)(t:TA):TE:=λY H Q=>t Y H λvs H1=>r vs H1 Q
def cZ(j:Co X (.builtin id) r)(i:Gl X x)(l:X.mg x=none)(m:bootBuiltins x=some (.builtin id))(f:PA X (e::es) t)(d:autoParam (x≠"__name__") uD)(a:autoParam 'u' uD)(g:autoParam 's' uR)(b:autoParam 'i' uR):PE X (.Call (.Name x p) (e::es) [] pos) (tCB r t):=by
 intro c s Y H Q I h;refine wpAny_Call_Name_kw (cc I i l m ?_ d a);exact PyProof.Rows.callWith_builtin1 (ai (f pos c s Y H _ I h) λus d ⟨f,H1,I1,a,e⟩=>j c d Y H1 f us Q I1 a e) g b
def iL(j:Co X (.type T) r)(i:Gl X x)(l:X.mg x=none)(m:bootBuiltins x=some (.type T))(f:PA X (e::es) t)(d:autoParam (x≠"__name__") uD)(a:autoParam 'u' uD)(g:autoParam 's' uR)(b:autoParam 'i' uR):PE X (.Call (.Name x p) (e::es) [] pos) (tCB r t):=by
 intro c s Y H Q I h;refine wpAny_Call_Name_kw (cc I i l m ?_ d a);exact PyProof.Rows.callWith_type1 (ai (f pos c s Y H _ I h) λus d ⟨f,H1,I1,a,e⟩=>j c d Y H1 f us Q I1 a e) g b
end
end L2
namespace HT
open PySem PyProof.Rows
def CS:List Int->List Int->Bool
 | [],[]=>false
 | [],_::_=>true
 | _::_,[]=>false
 | x::xs,y::ys=>if x=y then CS xs ys else decide (x<y)
def nU(x y:Int)(a b:List Int):CS (x::a) (y::b)=if x=y then CS a b else decide (x<y):=rfl
def nV:CS [] []=false:=rfl
def nW(y:Int)(a:List Int):CS [] (y::a)=true:=rfl
def nX(x:Int)(a:List Int):CS (x::a) []=false:=rfl
def nY(A:Around)(s:Shared)(a:Int)(t:Tok)(c:Int)(u:Tok):∃e,SeqAt.EqAt A s (.int a t) (.int c u) e/\(e=true↔a=c):=
 {(a == c),SeqAt.EqAt.int_int a t c u,'d'}
def n3(A:Around)(s:Shared)(a:Int)(t:Tok)(c:Int)(u:Tok)(prog:Program)(w:World)(E:Value->Shared->Prop)(Q:Value->Shared->Prop)(h:Q (.bool (decide (a<c))) s) :
 wpAny 'r' A (richCompare .Lt (.int a t) (.int c u)) Q E s:=
 (PyProof.Rows.lt_int h:wpAny 'r' A (compareOp .Lt (.int a t) (.int c u)) Q E s)
section
open PySem.SeqAt
open PySem.AutoSeq1 (wpAny_loadPart')
open PySem.MeetsSeq PySem.MeetsSeq2 PySem.MeetsSeq3
def n4(l b:Addr)(i f:Array Value)(n e:Nat)(d c:Option Addr)(g a:Array (Option Value))(ns C:List Int)(M:IntsAre i.toList ns)(J:IntsAre f.toList C) :
 Meets (Builtin.«tuple.__lt__» {[.ref l,.ref b],[]})
  (λ_ R s=>s.heap.get? l=some { cls:=.type "tuple",dict:=d,data:=.seq i n,slots:=g }/\s.heap.get? b=some { cls:=.type "tuple",dict:=c,data:=.seq f e,slots:=a }/\
   R (.ok (.ret (.bool (CS ns C)))) s):=
 .of_wp λprog w A R s h=>by
  obtain⟨B,g,d,z,E⟩:=s;obtain⟨c,e,h⟩:=h;have f2:=AutoSeq1.sub_tuple_tuple;have a:i.size=ns.length:=by rw[<-M.length];simp
  have a:f.size=C.length:=by rw[<-J.length];simp
  wp_walk using wpAny_loadPart' c,wpAny_loadPart' e,wpAny_forIn_list _ (λa b s'=>b.1=none/\s'=⟨B,g,d,z,E⟩/\∃(G I:List Value) (l j:List Int),a=G.zip I/\
   IntsAre G l/\IntsAre I j/\l.length+f.size=j.length+i.size/\R (.ok (.ret (.bool (CS l j)))) ⟨B,g,d,z,E⟩) _
  case turn=>
   rintro ⟨y,x⟩ a b s' ⟨s,rfl,G,I,l,j,m,r,n,b,o⟩;cases r with
   | nil=>rw[List.zip_nil_left] at m;cases m
   | cons a t q=>
     cases n with
     | nil=>rw[List.zip_nil_right] at m;cases m
     | cons c u v=>
       rw[List.zip_cons_cons] at m;injection m with hyx hrest
       injection hyx with hy hx
       subst hy hx;rw[nU] at o;simp only[B4] at b;obtain⟨e,x,p⟩:=nY A.in1 ⟨B,g,d,z,E⟩ a t c u;refine Ac (x prog w _ _ ?_);cases e with
       | true=>
         rw[if_pos (p.mp rfl)] at o
         wp_walk
         exact{rfl,rfl,_,_,_,_,hrest,q,v,'o',o}
       | false=>
         rw[if_neg (λq=>absurd (p.mpr q) BA)] at o;have e:=n3 A.in1 ⟨B,g,d,z,E⟩ a t c u prog w
         wp_walk using e
         exact{_,rfl,by simpa using o}
  case fin=>
   rintro ⟨d,e⟩ s' ⟨s,rfl,G,I,l,j,m,r,n,b,o⟩;simp only at s;subst s;have d:CS l j=decide (i.size<f.size):=by
    cases r with
    | nil=>
      cases n with
      | nil=>
        simp only[FY] at b;rw[nV];exact(aw 'o').symm
      | cons c u e=>
        simp only[FY,B4] at b;rw[nW];exact(az 'o').symm
    | cons a t d=>
      cases n with
      | nil=>
        simp only[FY,B4] at b;rw[nX];exact(aw 'o').symm
      | cons c u e=>
        rw[List.zip_cons_cons] at m;cases m
   rw[d] at o
   wp_walk
   exact{_,rfl,by simpa [Builtin.Tuple.tupleCompareSizes] using o}
  case h=>
   exact{rfl,rfl,i.toList,f.toList,ns,C,rfl,M,J,'o',h}
end
def n5{ns a:List Int}(e:IsTup s.heap l items)(x:IsTup s.heap b items2)(v:IntsAre items.toList ns)(r:IntsAre items2.toList a)(q:A.units<cLine)(h:Q (.bool (CS ns a)) s):wpAny 'r' A (compareOp .Lt (.ref l) (.ref b)) Q E s:=by
 obtain⟨⟨d,p,c,o⟩,m,j,n,i⟩:=id e;obtain⟨⟨d,g,data2,f⟩,c,e,u,d⟩:=id x;simp only at j i e d;subst j i e d;exact richCompare_meets_room (op:=.Lt) {_,m,rfl} {_,c,rfl} PySem.F.slot_tuple_lt PySem.F.entry_tuple_lt (PySem.F.args_tuple_lt_2 _ _) (n4 l b items items2 n u p g o f ns a v r)
  {m,c,show Value.bool (CS ns a)≠Value.notImplemented/\Q (.bool (CS ns a)) s from{(λx=>nomatch x),h}} q
def cat_tup(e:IsTup s.heap t c.toArray)(x:IsTup s.heap b ws.toArray)(r:c≠[])(u:ws=[]->Q (.ref t) s)(v:ws≠[]->Q (.ref s.heap.objs.size) { s with heap:=s.heap.push { cls:=.type "tuple",data:=.seq (c++ws).toArray } })(j:c.length+ws.length<=sizeLine):wpAny 'r' A (binaryOp .Add (.ref t) (.ref b)) Q E s:=by
 obtain⟨⟨cls,l,data,o⟩,i,q,n,p⟩:=id e;obtain⟨⟨d,g,data2,f⟩,a,h,m,d⟩:=id x;simp only at q p h d;subst q p h d;have e:c.toArray++ws.toArray=(c++ws).toArray:=by simp
 by_cases d:ws=[]
 ·exact concat_meets {_,i,rfl} {_,a,rfl} noFill_tuple_add seq_tuple_add PySem.F.slot_tuple_add PySem.F.entry_tuple_add (PySem.F.args_tuple_add_2 _ _)
   (tuple_addW1 t b c.toArray ws.toArray n m l g o f (by simpa using r) (by simp[d])) {i,a,u d}
 ·refine concat_meets {_,i,rfl} {_,a,rfl} noFill_tuple_add seq_tuple_add PySem.F.slot_tuple_add PySem.F.entry_tuple_add (PySem.F.args_tuple_add_2 _ _)
   (tuple_addW2 t b c.toArray ws.toArray n m l g o f (by simpa using r) (by simpa using d) (by rw[A6,A6];exact j)) {i,a,?_}
  rw[e];exact v d
instance sIx(n d:Nat):Option Int->Nat
 | none=>d
 | some v=>if v<0 then (v+(n:Int)).toNat else min v.toNat n
def sIx_none(n d:Nat):sIx n d none=d:=rfl
def sIx_nat(n d k:Nat):sIx n d (some (k:Int))=min k n:=by
 show (if (k:Int)<0 then ((k:Int)+(n:Int)).toNat else min (k:Int).toNat n)=min k n;rw[if_neg 'o',Dz]
def n6(n d:Nat)(a:d<=n)(o:Option Int):sIx n d o<=n:=by
 cases o with
 | none=>exact a
 | some v=>
   show (if v<0 then (v+(n:Int)).toNat else min v.toNat n)<=n;by_cases a:v<0
   ·rw[if_pos a];omega
   ·rw[if_neg a];exact Nat.min_le_right _ _
def iM(v:Int)(n d:Nat):(if v<0 then max (v+(n:Int)) 0 else min v (n:Int))=((sIx n d (some v):Nat):Int):=by
 show (if v<0 then max (v+(n:Int)) 0 else min v (n:Int))=(((if v<0 then (v+(n:Int)).toNat else min v.toNat n):Nat):Int);by_cases a:v<0
 ·simp only[if_pos a];omega
 ·simp only[if_neg a];omega
def n7(a b:Option Int)(n:Nat):Builtin.Slice.sliceAdjust a b 1 (n:Int)=(((sIx n 0 a:Nat):Int),((sIx n n b:Nat):Int)):=by
 have c:¬((1:Int)<0):=by omega
 unfold Builtin.Slice.sliceAdjust;simp only[c,if_false];refine Prod.ext ?_ ?_
 ·cases a with
  | none=>rfl
  | some v=>exact iM v n 0
 ·cases b with
  | none=>rfl
  | some v=>exact iM v n n
def n8(i j:Nat):Builtin.Slice.slicePlaces (i:Int) (j:Int) 1=j-i:=by
 unfold Builtin.Slice.slicePlaces;have a:(1:Int)>0:=by omega
 simp only[a,if_true,Int.ediv_one];split<;>omega
def iN(p:IsPart v o)(h:Q o s):wpAny 'r' A (Builtin.Slice.slicePartIndex v) Q E s:=by
 cases p with
 | none=>exact slicePart_none h
 | int i t=>exact slicePart_int h
def n9{b:Addr}{f e:Value}{a c:Option Int}{n:Nat}{Q:Int×Int×Nat->Shared->Prop}(l:s.heap.IsSliceOf b f e .none)(j:IsPart f a)(g:IsPart e c)(h:Q (((sIx n 0 a:Nat):Int),1,sIx n n c-sIx n 0 a) s):wpAny 'r' A (Builtin.Slice.sliceApplied (.ref b) (pure (n:Int))) Q E s:=by
 obtain⟨m,b,i,d⟩:=id l;unfold Builtin.Slice.sliceApplied Builtin.Slice.sliceFields;refine Ac (Ac (B3 b d (x:=f) rfl (Ac (B3 b d (x:=e) rfl (Ac (B3 b d (x:=.none) rfl (An ?_)))))));refine Ac (slicePart_none ?_);show wpAny _ _ (if ((1:Int) == 0)=true then _ else _) _ _ s;rw[if_neg 'z'];refine Ac (iN j (Ac (iN g (Ac (An ?_)))));show wpAny _ _ (match Builtin.Slice.sliceAdjust a c 1 (n:Int) with | (a,c)=>pure (a,(1:Int),Builtin.Slice.slicePlaces a c 1)) _ _ s;rw[n7 a c n];show wpAny _ _ (pure (((sIx n 0 a:Nat):Int),(1:Int),Builtin.Slice.slicePlaces ((sIx n 0 a:Nat):Int) ((sIx n n c:Nat):Int) 1)) _ _ s;rw[n8];exact An h
open H in
def oe(a:Array Value)(i k:Nat):((List.range k).filterMap λ(m:Nat)=>a[((i:Int)+(m:Int)*1).toNat]?).toArray=((a.toList.drop i).take k).toArray:=by
 have e:(λ(m:Nat)=>a[((i:Int)+(m:Int)*1).toNat]?)=λm=>a[i+m]?:=by
  funext m;have:((i:Int)+(m:Int)*1).toNat=i+m:=by omega
  rw[this]
 rw[e];have:=pick_run a i k;rw[List.filterMap_map] at this;have b:((λx=>a[x]?) ∘ λx=>i+x)=λm=>a[i+m]?:=rfl
 rw[b] at this;rw[this]
def getItem_tuple_cut{t f:Addr}{a:Array Value}{g b:Value}{c d:Option Int}{Q:Value->Shared->Prop}(e:IsTup s.heap t a)(l:s.heap.IsSliceOf f g b .none)(p:IsPart g c)(r:IsPart b d)(o:¬(sIx a.size 0 c=0/\sIx a.size a.size d=a.size))(h:Q (.ref s.heap.objs.size) { s with heap:=s.heap.push { cls:=.type "tuple",data:=.seq ((a.toList.drop (sIx a.size 0 c)).take (sIx a.size a.size d-sIx a.size 0 c)).toArray } })(b:a.size<=sizeLine):wpAny 'r' A (getItem (.ref t) (.ref f)) Q E s:=by
 have b:sizeOk (.seq ((a.toList.drop (sIx a.size 0 c)).take (sIx a.size a.size d-sIx a.size 0 c)).toArray):=by
  show ((a.toList.drop (sIx a.size 0 c)).take (sIx a.size a.size d-sIx a.size 0 c)).toArray.size<=sizeLine;rw[A6,C7,List.length_drop,EV];omega
 have g:sIx a.size a.size d<=a.size:=n6 _ _ (Am _) d;obtain⟨n,g,i,q⟩:=id l;have j:s.TypeIs (.ref f) "slice":=⟨n,g,i⟩;unfold getItem;try with_reducible refine wpAny_holding ?_
 first | refine Ac (An ?_) | skip
 refine Ac (wpAny_sequenceKey e.typeIs 'z' ?_);refine Ac (wpAny_callSpecial?_slot (name:=Str.ofString "__getitem__") e.typeIs PyProof.Rows.slot_tuple_getitem (Ev PyProof.Rows.slot_tuple_getitem e.typeIs entry_tuple_getitem ?_ (args_tuple_getitem _ _)));show wpAny _ _ (Builtin.Tuple.tupleItemsOf (.ref t) >>= _) _ _ s;refine Ac (tupleItemsOf_ e ?_);refine Ac (wpAny_typeOf j ?_);rw[if_pos 'z'];refine Ac (n9 l p r ?_);have e:¬((((sIx a.size 0 c:Nat):Int) == 0&&(1:Int) == 1&&(sIx a.size a.size d-sIx a.size 0 c) == a.size)=true):=by
  intro q;rw[FW,FW] at q;have f:((sIx a.size 0 c:Nat):Int)=0:=eq_of_beq q.1.1;have f:sIx a.size a.size d-sIx a.size 0 c=a.size:=eq_of_beq q.2;exact o {'o','o'}
 show wpAny _ _ (if (((sIx a.size 0 c:Nat):Int) == 0&&(1:Int) == 1&&(sIx a.size a.size d-sIx a.size 0 c) == a.size)=true then _ else _) _ _ s;rw[if_neg e,oe];first
  | exact Ac (m:=Builtin.Tuple.tupleExact _) (wpAny_newObj_type (An {_,rfl,An h}) b)
  | exact Ac (m:=Builtin.Tuple.tupleExact _) (wpAny_newObj_type (Ac (An (An {_,rfl,An h}))) b)
  | exact Ac (Ac (m:=Builtin.Tuple.tupleExact _) (wpAny_newObj_type (An (An {_,rfl,An h})) b))
  | exact Ac (Ac (m:=Builtin.Tuple.tupleExact _) (wpAny_newObj_type (An {_,rfl,An h}) b))
end HT
namespace L2
abbrev TO:=St->Hp->(Option Int->Hp->Prop)->Prop
instance PO(X:Cx)(e:Option Expr)(t:TO):Prop:=
 ∀(A3:List 'p') (s:Shared) (Y:St) (H:Hp) (Q:Option Int->Hp->Prop),Ab X A3 Y H s->t Y H Q->
  wpAny 'e' X.A (evalPart e X.env) (λu s'=>∃o H',Ab X A3 Y H' s'/\IsPart u o/\Q o H') X.xe s
def Kq:TO:=λ_ H Q=>Q none H
def Kr(t:TE):TO:=λY H Q=>t Y H λx H1=>∃i,x=.int i/\Q (some i) H1
def og{ns:List Int}:∀{us:List Value},Aq 'k' us->IntsAre us ns:=by
 induction ns with
 | nil=>intro us r;rw[List.map_nil] at r;cases r;exact .nil
 | cons n ns ih=>
   intro us r;rw[BX] at r;cases r with
   | cons b a=>
     obtain⟨t,e⟩:=b;subst e;exact .cons n t (ih a)
section
variable{X:Cx}{e:Expr}{te:TE}{lo hi:Option Expr}{tl th:TO}{pos p2:Pos}
def iO:PO X none Kq:=by
 intro a s Y H Q I h;rw[evalPart_none];exact An {none,H,I,.none,h}
def iP(h:PE X e te):PO X (some e) (Kr te):=by
 intro a s Y H Q I b;rw[evalPart_some];refine ai (h a s Y H _ I b) λu a hI92=>?_
 obtain⟨x,H1,I1,a,b⟩:=hI92;obtain⟨i,rfl,q⟩:=b;obtain⟨t,rfl⟩:=a;exact{some i,H1,I1,.int i t,q}
instance SlR(X:Cx)(r:V->Option Int->Option Int->Hp->VK->Prop):Prop:=
 ∀(A3:List 'p') (s:Shared) (Y:St) (H:Hp) (x:V) (v vl vu:Value) (lo hi:Option Int) (sl:Addr) (Q:VK),Ab X A3 Y H s->Aj x v->s.heap.IsSliceOf sl vl vu .none->IsPart vl lo->IsPart vu hi->r x lo hi H Q->
  ∃T id,typeLookup (.type T) "__getitem__" = pure (some (.builtin id))/\s.TypeIs v T/\wpAny 'e' X.A (getItem v (.ref sl)) (EP X A3 Y Q) X.xe s
def SlR.or(h:SlR X r)(l:SlR X r'):SlR X (λx lo hi H Q=>r x lo hi H Q\/r' x lo hi H Q):=by
 intro a s Y H x v f d lo hi g Q I c i b j q;rcases q with q | q
 ·exact h a s Y H x v f d lo hi g Q I c i b j q
 ·exact l a s Y H x v f d lo hi g Q I c i b j q
instance tSl(r:V->Option Int->Option Int->Hp->VK->Prop)(te:TE)(tl th:TO):TE:=λY H Q=>te Y H λx H1=>tl Y H1 λl H2=>th Y H2 λu H3=>r x l u H3 Q
def iQ(o:SlR X r)(b:PE X e te)(a:PO X lo tl)(d:PO X hi th):PE X (.Subscript e (.Slice lo hi none p2) pos) (tSl r te tl th):=by
 intro c s Y H Q I h;refine Subscript_ (ai (b c s Y H _ I h) λv b hI93=>?_);obtain⟨x,H1,I1,h,g⟩:=hI93;refine wpAny_Slice (ai (a c b Y H1 _ I1 g) λf a ⟨l,H2,I2,g,b⟩=>ai (d c a Y H2 _ I2 b) λd a hI94=>?_);obtain⟨u,H3,I3,n,j⟩:=hI94;rw[evalPart_none];refine An ?_;have I4:Ab X c Y H3 { a with heap:=a.heap.push { cls:=.type "slice",data:=.fields #[f,d,.none] } }:=I3.kept (t':=a.toks) λb i q=>AM _ q
 obtain⟨T,p,b,i,m⟩:=o c { a with heap:=a.heap.push { cls:=.type "slice",data:=.fields #[f,d,.none] } } Y H3 x v f d l u a.heap.objs.size Q I4 h (Heap.IsSliceOf.new ..) g n j;show wpAny 'e' X.A (subscriptTail e (.Slice lo hi none p2) v (.ref a.heap.objs.size)) (EP X c Y Q) X.xe { a with heap:=a.heap.push { cls:=.type "slice",data:=.fields #[f,d,.none] } };exact tail_any (ops:=[.ref a.heap.objs.size,v]) i b m (by with_unfolding_all rfl)
def Ej(xs:List V)(lo hi:Option Int):List V:=(xs.drop (HT.sIx xs.length 0 lo)).take (HT.sIx xs.length xs.length hi-HT.sIx xs.length 0 lo)
def iR(a:List V)(lo hi:Option Int):(Ej a lo hi).length<=a.length:=by
 unfold Ej;rw[C7,List.length_drop];omega
def Ks(K:FG):V->Option Int->Option Int->Hp->VK->Prop:=λx lo hi H Q=>∃a xs,x=.ref a/\AN K H a xs/\
 ¬(HT.sIx xs.length 0 lo=0/\HT.sIx xs.length xs.length hi=xs.length)/\∀p,H p=none->Q (.ref p) (Ad H p (.tup (Ej xs lo hi)))
def oh:SlR X (Ks X.K):=by
 intro a s Y H x v c b lo hi a Q I j m i n h;obtain⟨a,c,rfl,g,l,q⟩:=h;cases j;obtain⟨b,r,d,f⟩:=I.tuple g;have a:b.toArray.size=c.length:=by rw[A6];exact r.length.symm
 refine{"tuple",_,PyProof.Rows.slot_tuple_getitem.lookup,d.typeIs,?_};refine HT.getItem_tuple_cut d m i n (by rw[a];exact l) ?_ (by rw[a];exact f);rw[a];refine{.ref s.heap.objs.size,_,I.laid (t':=s.toks) (o:=.tup (Ej c lo hi)) (λb a q=>AM _ q) (Am _) ?_,rfl,q _ (I.hok.fresh (Am _))};exact{Az (iR c lo hi) f,_,(r.drop (HT.sIx c.length 0 lo)).take (HT.sIx c.length c.length hi-HT.sIx c.length 0 lo),IsTup.new _ _,{_,Bi _ rfl,rfl}}
def Hg(K:FG):R2:=λx y H Q=>∃a b xs ys,x=.ref a/\y=.ref b/\AN K H a xs/\AN K H b ys/\xs≠[]/\xs.length+ys.length<=sizeLine/\
 (ys=[]->Q (.ref a) H)/\(ys≠[]->∀p,H p=none->Q (.ref p) (Ad H p (.tup (xs++ys))))
theorem Aq.nil_iff(r:Aq a us):us=[]↔a=[]:=by
 cases r with
 | nil=>simp
 | cons _ _=>simp
def oi:AX X (binaryOp .Add) (Hg X.K):=by
 intro a s Y H x y v u Q I c p h;obtain⟨a,b,n,j,rfl,rfl,l,q,i,f,m,r⟩:=h;cases c;cases p;obtain⟨g,d,h,_⟩:=I.tuple l;obtain⟨g,c,p2,_⟩:=I.tuple q;refine HT.cat_tup h p2 (λz=>i (d.nil_iff.mp z)) (λz=>{.ref a,H,I,rfl,m (c.nil_iff.mp z)}) (λz=>?_) (by rw[<-d.length,<-c.length];exact f);refine{.ref s.heap.objs.size,_,I.laid (t':=s.toks) (o:=.tup (n++j)) (λb a q=>AM _ q) (Am _) ?_,rfl,r (λw=>z (c.nil_iff.mpr w)) _ (I.hok.fresh (Am _))};exact{by rw[A8];exact f,_,d.append c,IsTup.new _ _,{_,Bi _ rfl,rfl}}
end
def CC(n:Nat)(i:Int):Option Nat:=if 0<=i then (if i<n then some i.toNat else none) else if -(n:Int)<=i then some (i+n).toNat else none
def BD{α:Type}(xs:List α)(i:Int):Option α:=(CC xs.length i).bind λj=>xs[j]?
def iS{n:Nat}{i:Int}{j:Nat}(h:CC n i=some j):seqIndex? i n=some j/\j<n/\-(n:Int)<=i/\i<n:=by
 unfold CC at h;by_cases b:0<=i
 ·rw[if_pos b] at h
  by_cases a:i<n
  ·rw[if_pos a] at h
   have e:i.toNat=j:=Option.some.inj h;exact{by rw[seqIndex_of b a,e],'o','o',a}
  ·rw[if_neg a] at h;cases h
 ·rw[if_neg b] at h
  by_cases a:-(n:Int)<=i
  ·rw[if_pos a] at h
   have e:(i+n).toNat=j:=Option.some.inj h;exact{by rw[seqIndex_neg 'o' a,e],'o',a,'o'}
  ·rw[if_neg a] at h;cases h
def fK{α:Type}{a:List α}{i:Int}{v:α}(h:BD a i=some v):∃j,seqIndex? i a.length=some j/\a[j]?=some v/\j<a.length/\-(a.length:Int)<=i/\i<a.length:=by
 unfold BD at h;cases e:CC a.length i with
 | none=>rw[e] at h;cases h
 | some j=>
   rw[e] at h;obtain⟨c,d,b,f⟩:=iS e;exact⟨j,c,h,d,b,f⟩
def ew{α:Type}{a:List α}{j:Nat}{v:α}(h:a[j]?=some v):BD a (j:Int)=some v:=by
 have b:j<a.length:=(AZ.mp h).1;have e:CC a.length (j:Int)=some j:=by
  unfold CC;rw[if_pos 'o',if_pos 'o'];simp
 unfold BD;rw[e];exact h
def oj{α:Type}(a:List α)(v:α):BD (a++[v]) (-1)=some v:=by
 have b:(a++[v]).length=a.length+1:=by simp
 have e:CC (a++[v]).length (-1)=some a.length:=by
  unfold CC;rw[b,if_neg 'z',if_pos 'o'];congr 1;omega
 unfold BD;rw[e];show (a++[v])[a.length]?=some v;simp
def GG(b:Expr):Prop:=∀o i,subscripted b false o i=operate [o,i] (getItem o i)
instance IxR(X:Cx)(r:R2):Prop:=
 ∀(value slice:Expr) (A3:List 'p') (s:Shared) (Y:St) (H:Hp) (x y:V) (v u:Value) (Q:VK),Ab X A3 Y H s->Aj x v->Aj y u->r x y H Q->
  subscripted slice false v u=operate [v,u] (getItem v u)->wpAny 'e' X.A (subscriptTail value slice v u) (EP X A3 Y Q) X.xe s
instance MtR(X:Cx)(id:String)(r:V->List V->Hp->VK->Prop):Prop:=
 ∀(A3:List 'p') (s:Shared) (Y:St) (H:Hp) (x:V) (xs:List V) (v:Value) (us:List Value) (Q:VK),Ab X A3 Y H s->Aj x v->Aq xs us->r x xs H Q->
  wpAny 'e' X.A (call (.builtin id) (v::us)) (EP X A3 Y Q) X.xe s
section
variable{X:Cx}{a b:Expr}{ta tb:TE}{pos:Pos}
def IxR.or(h:IxR X r)(j:IxR X r'):IxR X (λx y H Q=>r x y H Q\/r' x y H Q):=by
 intro d c g s Y H x y v u Q I e f q i;rcases q with q | q
 ·exact h d c g s Y H x y v u Q I e f q i
 ·exact j d c g s Y H x y v u Q I e f q i
def fL(i:IxR X r)(d:PE X a ta)(f:PE X b tb)(g:GG b):PE X (.Subscript a b pos) (tOp r ta tb):=by
 intro c s Y H Q I h;exact Subscript_ (fF d f I h λv u e x y H2 I2 d f q=>i a b c e Y H2 x y v u Q I2 d f q (g _ _))
def Jr(K:FG):R2:=λx y H Q=>∃p xs i v,x=.ref p/\y=.int i/\AV K H p xs/\BD xs i=some v/\Q v H
def Js(K:FG):R2:=λx y H Q=>∃p xs i v,x=.ref p/\y=.int i/\AN K H p xs/\BD xs i=some v/\Q v H
def Jt:R2:=λx y H Q=>∃z i c,x=.str z/\y=.int i/\z.length<=sizeLine/\BD z.cps.toList i=some c/\Q (.str ⟨#[c]⟩) H
def iT:IxR X (Jr X.K):=by
 intro d c g s Y H x y v u Q I c j h m;obtain⟨p,e,i,z,rfl,rfl,d,n,q⟩:=h;cases c;obtain⟨t,rfl⟩:=j;obtain⟨f,r,e,h⟩:=I.list d;obtain⟨j,c,h,l,p,o⟩:=fK n;obtain⟨w,l,d⟩:=r.get h;have n:=r.length;have u:=cX;have fin:EP X g Y Q w s:=⟨z,H,I,d,q⟩;by_cases h:0<=i
 ·have d:i.toNat=j:=by
   rw[seqIndex_of h o] at c;exact Option.some.inj c
  exact item_listR e.isList h 'o' (by rw[d];simpa using l) fin m
 ·have d:(i+(f.toArray.size:Int)).toNat=j:=by
   rw[seqIndex_neg 'o' p] at c;rw[A6,<-n];exact Option.some.inj c
  exact subscriptTail_builtinR (x:=w) e.isList.typeIs slot_list_getitem.lookup
   (wpAny_getItem_list_neg (Q:=λr s'=>r=w/\EP X g Y Q r s') e.isList 'o' (by rw[A6]<;>omega) 'o' (by rw[d];simpa using l) ⟨rfl,fin⟩) m
def iU:IxR X (Js X.K):=by
 intro d c e s Y H x y v u Q I d l h m;obtain⟨p,f,i,z,rfl,rfl,c,g,q⟩:=h;cases d;obtain⟨t,rfl⟩:=l;obtain⟨f,r,d,h⟩:=I.tuple c;obtain⟨j,f,i,h,n,l⟩:=fK g;obtain⟨w,h,c⟩:=r.get i;have g:=r.length;have l:=cX;have fin:EP X e Y Q w s:=⟨z,H,I,c,q⟩;exact subscriptTail_builtinR (x:=w) d.typeIs slot_tuple_getitem.lookup
  (getItem_tuple (j:=j) (Q:=λr s'=>r=w/\EP X e Y Q r s') d 'o' 'o' (by rw[A6,<-g];exact f) (by simpa using h) ⟨rfl,fin⟩) m
def ol:IxR X Jt:=by
 intro e d f s Y H x y v u Q I d e h l;obtain⟨z,i,c,rfl,rfl,g,f,q⟩:=h;obtain⟨t,rfl⟩:=d;obtain⟨m,rfl⟩:=e;obtain⟨j,d,g,n,m,h⟩:=fK f;have e:z.cps.toList.length=z.length:=by simp[Str.length]
 rw[e] at d m h;have f:=cX;exact tail_any (typeIs_str s z t) slot_str_getitem.lookup (getItem_str (c:=c) (by
  have e:decide (i < -(2 ^ 63:Int))=false:=aw 'o';have f:decide (i>=2 ^ 63)=false:=aw 'o';rw[e,f,Bool.or_false]) (by rw[d];simpa using g) {.str ⟨#[c]⟩,H,I.tok _,{_,rfl},q}) l
instance rIx(K:FG):R2:=λx y H Q=>Jr K x y H Q\/Js K x y H Q\/Jt x y H Q
def iV:IxR X (rIx X.K):=iT.or (iU.or ol)
def om(c:List Value)(n j:Nat)(u:Value):Obj.mapSeq (·.setIfInBounds j u) { cls:=.type "list",data:=.seq c.toArray n }={ cls:=.type "list",data:=.seq (c.set j u).toArray n }:=by
 simp[Obj.mapSeq]
def Ab.lst{f:List 'p'}{Y:St}{H:Hp}{s:Shared}{p:Addr}{d:List V}(I:Ab X f Y H s)(h:H p=some (.lst d)) :
 ∃(c:List Value) (n:Nat),Aq d c/\s.heap.get? p=some { cls:=.type "list",data:=.seq c.toArray n }/\d.length<=sizeLine:=by
 obtain⟨z,c,n,r,e⟩:=I.hok p _ h;exact⟨c,n,r,e,z⟩
def Ab.lstUpd{j:List 'p'}{Y:St}{H:Hp}{s:Shared}{p:Addr}{o i:List V}{d c:List Value}{n g:Nat}{f:Obj->Obj}(I:Ab X j Y H s)(h:H p=some (.lst o))(q:s.heap.get? p=some { cls:=.type "list",data:=.seq d.toArray n })(l:f { cls:=.type "list",data:=.seq d.toArray n }={ cls:=.type "list",data:=.seq c.toArray g })(r:Aq i c)(m:i.length<=sizeLine)(t:Nat) :
 Ab X j Y (Ad H p (.lst i)) { s with heap:=s.heap.update p f,toks:=t }:=by
 have e:(s.heap.update p f).get? p=some { cls:=.type "list",data:=.seq c.toArray g }:=by
  rw[Heap.get?_update_self f q (by rw[l]<;>rfl),l]
 refine I.write (x:=p) (e:=p) (by rw[h];trivial) (.inl rfl) (λb u f q=>(Heap.get?_update_other _ _ (Ne.symm f)).trans q) {_,e} ?_;exact⟨m,c,g,r,e⟩
def Ju:V->V->V->Hp->(Hp->Prop)->Prop:=λo i v H Q=>∃p xs k j,o=.ref p/\i=.int k/\H p=some (.lst xs)/\CC xs.length k=some j/\Q (Ad H p (.lst (xs.set j v)))
def oo:Jm X Ju:=by
 intro x s Y H o i v e c u Q I d f l h;obtain⟨p,y,k,j,rfl,rfl,e,i,q⟩:=h;cases d;obtain⟨t,rfl⟩:=f;obtain⟨c,n,r,g,o⟩:=I.lst e;obtain⟨d,z,h,m⟩:=iS i;have f:=r.length;have z:=cX;have i:Ab X x Y (Ad H p (.lst (y.set j v))) { s with heap:=s.heap.update p (Obj.mapSeq (·.setIfInBounds j u)) }:=
  I.lstUpd e g (om c n j u) (r.set l j) (by rw[DD];exact o) s.toks
 by_cases l:0<=k
 ·have e:k.toNat=j:=by
   rw[seqIndex_of l m] at d;exact Option.some.inj d
  exact PySem.W.ki_setAt g l 'o' (by rw[A6,<-f];exact m) (by rw[e];exact{_,i,q})
 ·have e:(k+(c.toArray.size:Int)).toNat=j:=by
   rw[seqIndex_neg 'o' h] at d;rw[A6,<-f];exact Option.some.inj d
  exact PySem.W.ki_setBack g 'o' (by rw[A6,<-f];exact h) 'o' (by rw[e];exact{_,i,q})
def oq(c d:Option Int)(n:Nat):(sliceBounds c d none n).1=((HT.sIx n 0 c:Nat):Int)/\(sliceBounds c d none n).2.1=((HT.sIx n n d:Nat):Int)/\(sliceBounds c d none n).2.2=1:=by
 refine{?_,?_,rfl}
 ·cases c with
  | none=>simp[sliceBounds,HT.sIx]
  | some i=>
    simp only[sliceBounds,HT.sIx,Option.getD_none,show (1:Int)>0 by decide,if_true];by_cases h:i<0
    ·simp only[h,if_true]<;>omega
    ·simp only[h,if_false]<;>omega
 ·cases d with
  | none=>simp[sliceBounds,HT.sIx]
  | some i=>
    simp only[sliceBounds,HT.sIx,Option.getD_none,show (1:Int)>0 by decide,if_true];by_cases h:i<0
    ·simp only[h,if_true]<;>omega
    ·simp only[h,if_false]<;>omega
def ou(c:List Value)(d e:Option Int):slicePick c.toArray d e none=((c.drop (HT.sIx c.length 0 d)).take (HT.sIx c.length c.length e-HT.sIx c.length 0 d)).toArray:=by
 obtain⟨g,h,f⟩:=oq d e c.toArray.size;unfold slicePick;rw[g,h,f];simp only[sliceRange_one,pick_run,A6]<;>rfl
def Kt(K:FG):V->Option Int->Option Int->Hp->VK->Prop:=λx lo hi H Q=>∃a xs,x=.ref a/\AV K H a xs/\∀p,H p=none->Q (.ref p) (Ad H p (.lst (Ej xs lo hi)))
def iW:SlR X (Kt X.K):=by
 intro c s Y H x v h g e f c Q I d m j p h;obtain⟨a,c,rfl,i,q⟩:=h;cases d;obtain⟨l,r,g,n⟩:=I.list i;have d:=r.length;refine{"list",_,slot_list_getitem.lookup,g.isList.typeIs,?_};refine wpAny_getItem_list_slice g.isList m j p .none 'd' ?_ (by rw[A6]<;>omega);rw[ou,<-d];refine{.ref s.heap.objs.size,_,I.laid (t':=s.toks) (o:=.lst (Ej c e f)) (λb d q=>AM _ q) (Am _) ?_,rfl,q _ (I.hok.fresh (Am _))};exact{Az (iR c e f) n,_,0,(r.drop (HT.sIx c.length 0 e)).take (HT.sIx c.length c.length f-HT.sIx c.length 0 e),Bi _ rfl}
def ox:Co X (.builtin "len") (λi H Q=>∃p d,i=[.ref p]/\(AV X.K H p d\/AN X.K H p d)/\Q (.int d.length) H):=by
 intro c s Y H i us Q I r h;obtain⟨p,d,rfl,e,q⟩:=h;obtain⟨u,rfl,c⟩:=bq r;cases c;have f:=cX;rcases e with e | e
 ·obtain⟨g,r',f,h⟩:=I.list e
  have c:=r'.length;exact Calls.call_len_list f.isList (by simp only[A6]<;>omega) {.int d.length,H,I.tok _,{s.toks+1,by rw[A6,c]},q}
 ·obtain⟨g,r',f,h⟩:=I.tuple e
  have c:=r'.length;exact len_tuple f (by simp only[A6]<;>omega) {.int d.length,H,I.tok _,{s.toks+1,by rw[A6,c]},q}
def oy:Co X (.type "list") (λv H Q=>∃p f,v=[.ref p]/\(AV X.K H p f\/AN X.K H p f)/\∀l,H l=none->Q (.ref l) (Ad H l (.lst f))):=by
 intro e s Y H v us Q I r h;obtain⟨p,f,rfl,i,q⟩:=h;obtain⟨u,rfl,d⟩:=bq r;cases d;have fin:∀(c:List Value),Aq f c->f.length<=sizeLine->∀(d:Heap) (g:Nat),(∀b o',s.heap.get? b=some o'->d.get? b=some o')->
  d.get? s.heap.objs.size=some { cls:=.type "list",dict:=none,data:=.seq c.toArray g,slots:=#[] }->EP X e Y Q (.ref s.heap.objs.size) { s with heap:=d }:=λc r' j d g kp e=>
  {.ref s.heap.objs.size,_,I.laid (t':=s.toks) kp (Am _) (show Bb X.prog X.w _ d _ (.lst f) from⟨j,c,g,r',e⟩),rfl,q _ (I.hok.fresh (Am _))}
 rcases i with i | i
 ·obtain⟨c,r',l,j⟩:=I.list i
  have h:=r'.length;obtain⟨o,m,r,n,q⟩:=l.isList;exact call_list_seq p (.inl rfl) m r q (λd g kp e=>fin c r' j d g kp e) (by simp only[A6]<;>omega)
 ·obtain⟨c,r',l,j⟩:=I.tuple i
  have h:=r'.length;obtain⟨o,m,r,n,q⟩:=l;exact call_list_seq p (.inr rfl) m r q (λd g kp e=>fin c r' j d g kp e) (by simp only[A6]<;>omega)
def ve:Co X (.type "tuple") (λj H Q=>∃p d,j=[.ref p]/\((AV X.K H p d/\∀l,H l=none->Q (.ref l) (Ad H l (.tup d)))\/(AN X.K H p d/\Q (.ref p) H))):=by
 intro e s Y H j us Q I r h;obtain⟨p,d,rfl,h⟩:=h;obtain⟨u,rfl,c⟩:=bq r;cases c;rcases h with⟨i,q⟩ | ⟨i,q⟩
 ·obtain⟨c,r',g,h⟩:=I.list i
  have f:=r'.length;refine call_tuple_list g.isList (λf kp=>?_) (by simp only[A6]<;>omega);have I1:Ab X e Y H { s with heap:=f }:=I.kept (t':=s.toks) kp;have I2:Ab X e Y (Ad H f.objs.size (.tup d)) { s with heap:=f.push { cls:=.type "tuple",data:=.seq c.toArray } }:=
   I1.laid (t':=s.toks) (λb o e=>AM _ e) (Am _) (show Bb X.prog X.w _ _ _ (.tup d) from{h,c,r',IsTup.new _ _,{_,Bi _ rfl,rfl}})
  exact{.ref f.objs.size,_,I2,rfl,q _ (I1.hok.fresh (Am _))}
 ·obtain⟨c,r',g,h⟩:=I.tuple i
  exact call_tuple_same g {.ref p,H,I,rfl,q}
instance tyV(K:FG)(T:String)(x:V)(H:Hp):Prop:=match x with
 | .str _=>T = "str"
 | .int _=>T = "int"
 | .ref p=>(T = "list"/\∃xs,AV K H p xs)\/(T = "tuple"/\∃o,K.lookup p=some o/\o.cls=.type "tuple"/\o.dict=none)\/
  (T = "dict"/\((∃kvs,H p=some (.dK kvs))\/∃kvs,H p=some (.dT kvs)))\/(T = "set"/\∃S n,H p=some (.set S n))
 | _=>False
def oz{T:String}(I:Ab X l Y H s)(r:Aj x v)(f:tyV X.K T x H) :
 s.TypeIs v T/\∀a,v=.ref a->∃c,s.heap.get? a=some c/\c.dict=none:=by
 cases x with
 | str z=>
   obtain⟨t,rfl⟩:=r;cases (show T = "str" from f);exact{typeIs_str s z t,λ_ e=>nomatch e}
 | int i=>
   obtain⟨t,rfl⟩:=r;cases (show T = "int" from f);exact{typeIs_int s i t,λ_ e=>nomatch e}
 | ref p=>
   cases r;rcases f with⟨rfl,g,c⟩ | ⟨rfl,o,d,j,g⟩ | ⟨rfl,d⟩ | ⟨rfl,S,n,d⟩
   ·obtain⟨i,_,h,_⟩:=I.list c
    refine{h.isList.typeIs,λa e=>?_};cases e;obtain⟨o,n,e,c,g,_⟩:=h;exact⟨o,e,g⟩
   ·refine{{o,I.kIn p o d,j},λa e=>?_}
    cases e;exact{o,I.kIn _ o d,g}
   ·have z:∃o,s.heap.get? p=some o/\o.ExactDict:=by
     rcases d with⟨c,d⟩ | ⟨c,d⟩
     ·obtain⟨_,_,_,_,o,_,_,e,c,_⟩:=I.hok p _ d
      exact⟨o,e,c⟩
     ·obtain⟨_,_,_,_,o,_,_,e,c,_⟩:=I.hok p _ d
      exact⟨o,e,c⟩
    obtain⟨o,e,c⟩:=z;refine{⟨o,e,c.1⟩,λa g=>?_};cases g;exact⟨o,e,c.2.1⟩
   ·obtain⟨o,_,_,_,e,c,_⟩:=I.hok p _ d
    refine{⟨o,e,c.1⟩,λa g=>?_};cases g;exact⟨o,e,c.2.1⟩
 | _=>exact False.elim f
instance tBM(K:FG)(T:String)(r:V->List V->Hp->VK->Prop)(to:TE)(t:TA):TE:=λY H Q=>to Y H λx H1=>tyV K T x H1/\t Y H1 λxs H2=>r x xs H2 Q
variable{name:Str}{T id:String}
def oB(l:PlainAttrs T)(g:Slot T name id)(j:typeOf (.builtin id)=pure (.type "method_descriptor"))(p:MtR X id r)(n:PE X o to)(m:PA X (e::es) t)(f:autoParam (attributeBase o name X.env (eval o X.env)=eval o X.env) uR)(i:autoParam (((backTo cpos (starEach (e::es) X.env)).all (λx=>!x.1)&&(backToKw cpos (keywordEach [] X.env)).all (λx=>x.1.isSome)
  && decide ((e::es).length+([]:List Keyword).length+(if ([]:List Keyword).isEmpty then 0 else 1)<30))=true) uR)(d:autoParam ((apos.endLine == cpos.line)=true) uR)(q:autoParam 's' uR)(c:autoParam ((backTo cpos (starEach es X.env)).any (·.1)=false) uR) :
 PE X (.Call (.Attribute o name apos) (e::es) [] cpos) (tBM X.K T r to t):=by
 intro e s Y H Q I h;refine wpAny_Call_method_late f i d rfl (ai (n e s Y H _ I h) λv i hI95=>?_);obtain⟨x,H1,I1,f,d,n⟩:=hI95;obtain⟨h,o⟩:=oz I1 f d;refine{T,id,l,g,j,h,o,?_};have d:=m cpos e i Y H1 _ I1 n;rw[q] at d ⊢;refine Calls.callWith_builtin (by show (false||(backTo cpos (starEach es X.env)).any (·.1))=false;rw[c]<;>rfl) (Calls.evalArgs_plain ?_);exact ai d λus g ⟨h,H2,I2,c,d⟩=>p e g Y H2 x h v us Q I2 f c d
end
instance MtM(X:Cx)(id:String)(r:V->List V->Hp->VK->Prop):Prop:=
 ∀(A3:List 'p') (s:Shared) (Y:St) (H:Hp) (x:V) (xs:List V) (v:Value) (us:List Value) (Q:VK),Ab X A3 Y H s->Aj x v->Aq xs us->r x xs H Q->
  wpAny 'e' X.A (call (.builtin id) (v::us)) (EP X A3 Y Q) X.xe s
theorem Aq.unc{x:V}{a:List V}{us:List Value}(h:Aq (x::a) us):∃u r,us=u::r/\Aj x u/\Aq a r:=by
 cases h with
 | cons r t=>exact{_,_,rfl,r,t}
def Aq.unn{us:List Value}(h:Aq [] us):us=[]:=by
 cases h;rfl
def Aq.one{x:V}{us:List Value}(h:Aq [x] us):∃u,us=[u]/\Aj x u:=by
 obtain⟨u,r,e,a,b⟩:=h.unc;rw[b.unn] at e;exact⟨u,e,a⟩
theorem Aq.zero:∀{us:List Value},Aq [] us->us=[]
 | _,.nil=>rfl
theorem Aq.rep(h:Aq a us):∀k:Nat,Aq (List.replicate k a).flatten (List.replicate k us).flatten
 | 0=>.nil
 | k+1=>by
   rw[Fs,Fs,Fx,Fx];exact Aq.append h (Aq.rep h k)
theorem iX(b:List Value):∀(k:Nat) (a:List Value),
 List.foldl (λc d=>c++d) a.toArray (List.replicate k b.toArray)=(a++(List.replicate k b).flatten).toArray
 | 0,a=>by simp
 | k+1,a=>by
   have e:a.toArray++b.toArray=(a++b).toArray:=by simp
   have c:(a++b)++(List.replicate k b).flatten=a++(List.replicate (k+1) b).flatten:=by
    rw[Fs,Fx,BB]
   rw[<-c,<-iX b k (a++b),<-e,Fs,List.foldl_cons]
def Ab.lset{a its':List Value}{n:Nat}{f:Array Value->Array Value}{i:Nat}(I:Ab X d Y H s)(c:H l=some (.lst m))(e:s.heap.get? l=some { cls:=.type "list",data:=.seq a.toArray n })(h:f a.toArray=its'.toArray)(j:Aq b its')(g:b.length<=sizeLine) :
 Ab X d Y (Ad H l (.lst b)) { s with heap:=s.heap.update l (Obj.mapSeq f),toks:=i }:=by
 have q:=PySem.IsL.update e f;rw[h] at q;refine I.write (x:=l) (e:=l) (by rw[c];exact trivial) (.inl rfl) (λi u h c=>(Heap.get?_update_other s.heap (Obj.mapSeq f) (Ne.symm h)).trans c) {_,q} ?_;exact{g,its',_,j,q}
def Ab.lnew{t':Nat}(I:Ab X a Y H s)(b:Aq ys its)(c:ys.length<=sizeLine) :
 Ab X a Y (Ad H s.heap.objs.size (.lst ys)) { s with heap:=s.heap.push { cls:=.type "list",data:=.seq its.toArray },toks:=t' }:=
 I.laid (λ_ _ q=>AM _ q) (Am _) {c,its,0,b,Bi _ rfl}
def Ab.fresh(I:Ab X a Y H s):H s.heap.objs.size=none:=I.hok.fresh (Am _)
def Ab.lstM(I:Ab X d Y H s)(c:H l=some (.lst b)):b.length<=sizeLine/\∃(a:List Value) (n:Nat),Aq b a/\b.length=a.length/\s.heap.get? l=some { cls:=.type "list",data:=.seq a.toArray n }:=by
 obtain⟨z,a,n,r,e⟩:=I.hok l _ c;exact⟨z,a,n,r,r.length,e⟩
def iY{n:Nat}(h:n<=sizeLine):Builtin.List.listTooLong n=false:=by
 unfold Builtin.List.listTooLong;exact aw 'o'
def Hh:V->List V->Hp->VK->Prop:=λx vs H Q=>∃l xs y,x=.ref l/\vs=[y]/\H l=some (.lst xs)/\xs.length<sizeLine/\Q .non (Ad H l (.lst (xs++[y])))
def oC:MtM X "list.append" Hh:=by
 intro a s Y H x b v us Q I a c h;obtain⟨l,e,y,rfl,rfl,b,d,q⟩:=h;cases a;obtain⟨u,rfl,d⟩:=c.one;obtain⟨z,a,n,r,f,e⟩:=I.lstM b;refine call_meets F.slot_list_append {_,e,rfl} F.entry_list_append (F.args_list_append_2 _ _) (PySem.list_append l a.toArray n u (by rw[A6];omega)) {e,?_};refine{.non,_,I.lset (its':=a++[u]) b e 'd' (r.append (.cons d .nil)) ?_,rfl,q};rw[A8,List.length_singleton];omega
def Jv:V->List V->Hp->VK->Prop:=λx vs H Q=>∃l b xs zs,x=.ref l/\vs=[.ref b]/\H l=some (.lst xs)/\H b=some (.lst zs)/\xs.length+zs.length<=sizeLine/\Q .non (Ad H l (.lst (xs++zs)))
def vf:MtM X "list.extend" Jv:=by
 intro a s Y H x b v us Q I c a h;obtain⟨l,b,i,e,rfl,rfl,g,d,f,q⟩:=h;cases c;obtain⟨u,rfl,f⟩:=a.one;cases f;obtain⟨z,c,n,r,a,e⟩:=I.lstM g;obtain⟨f,a,h,i,m,j⟩:=I.lstM d;have f:c.toArray.size+a.toArray.size<=sizeLine:=by rw[A6,A6];omega
 have d:¬(!c.toArray.isEmpty&&Builtin.List.listTooLong (c.toArray.size+a.toArray.size))=true:=by
  rw[iY f,Bool.and_false];exact BA
 refine call_meets F.slot_list_extend {_,e,rfl} F.entry_list_extend (F.args_list_extend_2 _ _)
  (AutoSeq1.list_extend_list_list_0 l c.toArray n b a.toArray h d (by rw[A6];omega) 'o') {e,j,?_}
 refine{.non,_,I.lset (its':=c++a) g e 'd' (r.append i) ?_,rfl,q};rw[A8];omega
def Hi:R2:=λx y H Q=>∃l b xs zs,x=.ref l/\y=.ref b/\H l=some (.lst xs)/\H b=some (.lst zs)/\xs.length+zs.length<=sizeLine/\∀p,H p=none->Q (.ref p) (Ad H p (.lst (xs++zs)))
def oD:AX X (binaryOp .Add) Hi:=by
 intro a s Y H x y v u Q I a d h;obtain⟨l,b,i,e,rfl,rfl,c,g,f,q⟩:=h;cases a;cases d;obtain⟨z,b,n,r,a,e⟩:=I.lstM c;obtain⟨j,a,i,d,h,f⟩:=I.lstM g;refine PySem.P.add_list e f ?_ (by rw[A6,A6];omega);have c:b.toArray++a.toArray=(b++a).toArray:=by simp
 rw[c];exact{.ref _,_,I.lnew (t':=s.toks) (r.append d) (by rw[A8];omega),rfl,q _ I.fresh}
def Hj:R2:=λx y H Q=>∃l k xs,x=.ref l/\y=.int k/\H l=some (.lst xs)/\-(2 ^ 63)<=k/\k<2 ^ 63/\xs.length*k.toNat<=sizeLine/\
 ∀p,H p=none->Q (.ref p) (Ad H p (.lst (List.replicate k.toNat xs).flatten))
def oE{α:Type}(a:List α)(k:Nat):(List.replicate k a).flatten.length=k*a.length:=by
 induction k with
 | zero=>simp
 | succ k ih=>rw[Fs,Fx,A8,ih,Nat.succ_mul,Cm]
def oF:AX X (binaryOp .Mult) Hj:=by
 intro a s Y H x y v u Q I a f h;obtain⟨l,k,b,rfl,rfl,c,g,j,i,q⟩:=h;cases a;obtain⟨t,rfl⟩:=f;obtain⟨z,b,n,r,d,e⟩:=I.lstM c;have a:b.toArray.size*k.toNat<=sizeLine:=by rw[A6,<-d];exact i
 have f:¬b.toArray.size*k.toNat>(2 ^ 63-1) / 8:=by
  have:(sizeLine:Nat)<=(2 ^ 63-1) / 8:=by decide
  omega
 have d:¬(!Builtin.List.listFitsIndex k)=true:=by
  rw[fitsIndex_both g j];exact BA
 have c:¬Builtin.List.listTooLong (b.toArray.size*k.toNat)=true:=by
  rw[iY a];exact BA
 have g:List.foldl (λa h=>a++h) #[] (List.replicate (if b.toArray.isEmpty=true then 0 else k.toNat) b.toArray)=(List.replicate k.toNat b).flatten.toArray:=by
  have j:∀m:Nat,List.foldl (λa h=>a++h) #[] (List.replicate m b.toArray)=(List.replicate m b).flatten.toArray:=λm=>by
   have:=iX b m [];rw[List.nil_append] at this;exact this
  rw[j];cases b with
  | nil=>simp
  | cons a r'=>rw[if_neg 'd']
 refine wpAny_binaryOp_repeat_ref (T:="list") (U:="int") 'z' {_,e,rfl} (λs'=>typeIs_int s' k t) noFill_list_mul F.fills_int_mul F.slot_int_rmul repeat_list F.slot_int_index.lookup
  (call_meets F.slot_int_rmul (typeIs_int s k t) F.entry_int_rmul (F.args_int_rmul_2 _ _) (int___rmul___int_list k t l b.toArray n)
   {e,rfl,{_,e,rfl},call_meets F.slot_list_mul {_,e,rfl} F.entry_list_mul (F.args_list_mul_2 _ _) (AutoListH.list___mul___list_int_3 l b.toArray n k t d f c) {e,?_}})
 rw[g];exact{.ref _,_,I.lnew (t':=s.toks) (r.rep k.toNat) (by rw[oE,Nat.mul_comm];exact i),rfl,q _ I.fresh}
end L2
namespace Att
open PySem PySem.W PySem.Calls PyProof.Rows
def oG:∀(ns:List Int) (c:List Value),WellAll P h c (ns.map WData.int)->IntsAre c ns:=by
 intro ns;induction ns with
 | nil=>
   intro c w;rw[List.map_nil] at w;cases w;exact .nil
 | cons n ns ih=>
   intro c w;rw[BX] at w;cases w with
   | cons a b=>
     cases a;exact .cons _ _ (ih _ b)
def oH{l:OpenLaw}{n:Nat}(x:l.most=some n){P:Params}{h:Heap}{args:List WData}{c:List Value}(b:l.row.toRowW.claim.pre args=true)(j:WellAll P h c args) :
 ∃a p ns,c=[Value.ref a]/\args=[WData.list (ns.map WData.int)]/\h.get? a=some { cls:=.type "list",data:=.seq p.toArray }/\IntsAre p ns/\ns.length<=n:=by
 have m:WShape.hasAll [] args [.list .int]=true:=(pre_splitW b).1;have o:l.pre.holds [] { args:=args }=true:=(pre_splitW b).2;obtain⟨d,r,rfl,v,B⟩:=hasAllW_cons m;obtain rfl:=hasAllW_nil B;obtain⟨C,rfl,s⟩:=hasW_list v;obtain⟨ns,rfl⟩:=items_int s;have e:ns.length<=n:=by
  unfold OpenLaw.pre at o;have i:(WTm.not (.lt (.lit (.int (n:Int))) (.len (.arg 0)))).holds [] { args:=[.list (ns.map .int)] }=true:=by
   have i:=(holds_andW o).1;rw[x] at i;exact i
  have g:=condW_of i (w_not (w_lt w_lit (w_len_list (w_arg rfl))));rw[Ag] at g;refine ED λq=>?_
  have z:(n:Int)<((ns.length:Nat):Int):=by omega
  first
   | (rw[az z] at g;exact absurd g 'z')
   | (simp at g;omega)
 cases j with
 | cons A u=>
   cases u;cases A with
   | list y f=>exact{_,_,ns,rfl,rfl,y,oG ns _ f,e}
def oI(l:OpenLaw)(args:List WData):l.row.toRowW.claim.post args (.bool true) args=true:=
 postW_of (r:=l.row.toRowW) (X:=(true == true))
  (show WShape.has [] (.bool true) .bool=true by first | rfl | decide | simp[WShape.has,WShape.arms,WShape.armsAll])
  (show (WTm.eq .res (.lit (.bool true))).value [] { args:=args,res:=some (.bool true),after:=args }=some (.bool (true == true)) from w_eq_bool (w_res rfl) w_lit) rfl
def attach_call{l:OpenLaw}{n:Nat}{q:Program}{e:List Str}{f:(Str->Option Value)->Heap->Prop}{s:World->Heap->Prop}{d:DefRec}(B:l.most=some n)(i:d.params.defaults=[])(call:∀(w:World) (c b:Shared) (m u:Str->Option Value) (j:Addr) (o:Obj) (x p g:Value) (a:Addr) (h:List Value) (ns:List Int),
  Ground q e [] f w c m u b.heap->s w b.heap->
  b.heap.get? j=some o->o.data=.func (docDef d.name d.params d.body d.scope x p g)->b.heap.CodeRec p d.name->m d.name=some (.ref j)->
  b.heap.get? a=some { cls:=.type "list",data:=.seq h.toArray }->IntsAre h ns->ns.length<=n->b.gens=#[]->
  codeAny (model l.prog w) callerA (.call (.ref j) {[.ref a],[]}) (λr s'=>r=.ok (.ret (.bool true))/\OldK b.heap s'.heap/\s'.os=b.os/\AllBare s'.gens) b) :
 WalkO q e f s l.row.toRowW d [] (λf h=>PySem.call f h):=by
 intro w c b m u G n j o x p g E kV C M s d q I z f N e y A v J;obtain rfl:E=.none:=Dflts.none d i;obtain rfl:kV=.none:=Dflts.noKw d;obtain⟨a,h,ns,rfl,rfl,i,d,f⟩:=oH B e v;refine enter_call (codeAny_mono (call w c b m u j o x p g a h ns G n C (fd_plain M) s q i d f I) λr s' c=>?_);obtain⟨rfl,d,b,a⟩:=c;exact{.inl {.bool true,.bool true,[],rfl,λ_=>rfl,.bool true,oI l _,λ_=>{List.Pairwise.nil,λ_ c=>(nomatch c)}},d,b,a}
section
variable{prog:Program}{w:World}{A:Around}{E:Value->Shared->Prop}{s:Shared}{K:Frag}
end
end Att
namespace L2
theorem iZ:∀{a:List Value} {ns:List Int},IntsAre a ns->Aq 'k' a
 | _,_,.nil=>.nil
 | _,_,.cons n t h=>.cons ⟨t,rfl⟩ (iZ h)
def HV(H:Hp):Prop:=∀b,H b=none\/∃o xs,H b=some (.frz o (.lst xs))
open H in
def oJ{P:Program}{w:World}{K:FG}{z G:Str->Option Value}{f:EI}{k:Nat}{d a:Addr}{h:FuncData}{x:Str}{e:Sp}{c:Shared}{j:List Value}{ns:List Int}(R:K.In c.heap)(y:c.heap.Ns mainGlobals z)(g:c.heap.Ns builtinsNs G)(B:∀x:Str,x≠"__name__"->G x=bootBuiltins x)(p:c.heap.NoLimit)(T:c.gens=#[])(A:c.heap.get? a=some { cls:=.type "list",data:=.seq j.toArray })(J:IntsAre j ns)(M:ns.length<=sizeLine)(W:AQ k callerA)(F:∀b:Heap,K.In b->b.Ns mainGlobals z->BS P w K z b f k d h [x] e)(l:∀(s:Shared) (u:Value),BindsTo s h {[u],[]} [(x,u)])(I:∀H:Hp,HV H->AV K H a 'k'->e [.ref a] H (λv _=>v=.bl true) λ_ _ _=>False)(C:∀H e s',f [] H c (λ_ _ _=>False) e s'->False) :
 codeAny (model P w) callerA (.call (.ref d) {[.ref a],[]}) (λr s'=>r=.ok (.ret (.bool true))/\OldK c.heap s'.heap/\s'.os=c.os/\AllBare s'.gens) c:=by
 have Q:=iZ J;have x:=J.length
 -- from an abstract heap in which nothing but the script may be tracked
 have i:∀H:Hp,HV H->AV K H a 'k'->Bd P w H c.heap->(∀b,H b≠none->b=a)->(H a≠none->K.lookup a=none)->
  codeAny (model P w) callerA (.call (.ref d) ⟨[.ref a],[]⟩) (λr s'=>r=.ok (.ret (.bool true))/\OldK c.heap s'.heap/\s'.os=c.os/\AllBare s'.gens) c:=by
  intro H N U s O Y;have f:∀{b:Addr} {o:Obj},c.heap.get? b=some o->H b=none->(EX c.heap H).get? b=some o:=λe n=>m5 e n
  have E:∀{b:Addr} {o:Obj} {es:Array DictEntry} {n:Nat},c.heap.get? b=some o->o.data=.dict es n->H b=none:=λ{b o es n} e d=>by
   cases q:H b with
   | none=>rfl
   | some u=>
     have e':b=a:=O b (by rw[q];simp);subst e';rw[A] at e;cases e;have d':Data.seq j.toArray _=Data.dict es n:=d;cases d'
  have h:∀{b:Addr} {m:Str->Option Value},c.heap.Ns b m->(EX c.heap H).Ns b m:=λ{b m} ⟨o,es,n,e,d,r⟩=>{o,es,n,f e (E e d),d,r}
  have m:K.In (EX c.heap H):=λb o e=>f (R b o e) (by
   cases q:H b with
   | none=>rfl
   | some u=>
     have e':b=a:=O b (by rw[q];simp);subst e';rw[Y (by rw[q];simp)] at e;cases e)
  have E:Mod K z (EX c.heap H):={m,h y,{G,h g,B},let ⟨d,n,G⟩:=p;{d,h n,G}};have f:GF P w K z (EX c.heap H) callerA [] c H:={rfl,E,λb o e=>m6 e,BY (m4 _ _),trivial,λb g=>absurd (show b∈([]:List Addr) from g) 'd',s,.of_eq T};refine codeAny_mono ((F _ m (h y)).run callerA [] c H {[.ref a],[]} [.ref a] [.ref a] _ _ W f (l c (.ref a)) (.cons rfl .nil) (I H N U)) λr s' h=>?_
  cases r with
  | error e=>exact(C H e s' h).elim
  | ok c=>
    cases c with
    | next=>exact False.elim h
    | brk=>exact False.elim h
    | cont=>exact False.elim h
    | ret u=>
      obtain⟨v,m,l,d,f,c,r',q⟩:=h;have m:v=.bl true:=q;subst m;obtain rfl:u=Value.bool true:=r';refine{rfl,OldK.of_keep λb o e=>?_,l,d};cases q:H b with
      | none=>exact f.keep b o e q (by intro z;exact absurd (show b∈([]:List Addr) from z) 'd') 'd'
      | some u=>
        rcases N b with z | ⟨h,d,z⟩
        ·rw[q] at z;cases z
        ·have l:=f.frzs b h _ z
         obtain⟨d,_⟩:=s b _ z;obtain⟨f,_⟩:=c b _ l;rw[e] at d;cases d;exact f
 cases c:K.lookup a with
 | some o=>
   -- the script is one of the module's own objects
   have e:=R a o c;rw[A] at e;cases e;refine i (λ_=>none) (λ_=>.inl rfl) (.inr {_,j.toArray,_,c,rfl,rfl,rfl,by rw[A6,x];exact M,by simpa using Q}) (λb u z=>by have z':(none:Option HO)=some u:=z;cases z') (λb z=>absurd rfl z) λz=>absurd rfl z
 | none=>
   refine i (λb=>if b=a then some (.frz { cls:=.type "list",data:=.seq j.toArray } (.lst 'k')) else none) (λb=>?_) (.inl (.inr {{ cls:=.type "list",data:=.seq j.toArray },if_pos rfl})) (λb u z=>?_) (λb z=>?_) λ_=>c
   ·by_cases g:b=a
    ·exact .inr {_,_,if_pos g}
    ·exact .inl (if_neg g)
   ·by_cases g:b=a
    ·have z':=(if_pos g).symm.trans z
     cases z';subst g;exact{A,by rw[Ag];exact M,j,_,Q,A}
    ·have z':=(if_neg g).symm.trans z
     cases z'
   ·by_cases g:b=a
    ·exact g
    ·exact absurd (if_neg g) z
def walk_of{l:PySem.W.OpenLaw}{n k:Nat}{q:Program}{b:List Str}{j:(Str->Option Value)->Heap->Prop}{f:World->Heap->Prop}{d:DefRec}{K:Params->FG}{CX:World->EI}{sp:World->Sp}{x:Str}(o:l.most=some n)(p:n<=sizeLine)(c:d.params.defaults=[])(A:AQ k callerA)(z:∀(w:World) (h:Heap),f w h->(K w.params).In h)(F:∀(w:World) (g:Str->Option Value) (i:Addr) (h:Heap),(K w.params).In h->h.Ns mainGlobals g->g d.name=some (.ref i)->
  ∃y:FuncData,(∀(s:Shared) (u:Value),BindsTo s y {[u],[]} [(x,u)])/\
   ∀a:Heap,(K w.params).In a->a.Ns mainGlobals g->BS l.prog w (K w.params) g a (CX w) k i y [x] (sp w))(r:∀(w:World) (H:Hp) (a:Addr) (ns:List Int),ns.length<=n->HV H->AV (K w.params) H a 'k'->sp w [.ref a] H (λv _=>v=.bl true) λ_ _ _=>False)(m:∀(w:World) (H:Hp) (s:Shared) (e:Value) (s':Shared),CX w [] H s (λ_ _ _=>False) e s'->False) :
 PySem.W.WalkO q b j f l.row.toRowW d [] (λf l=>PySem.call f l):=by
 refine Att.attach_call o c λw b f g d i o c j b a l ns G h q s n j d c b o=>?_
 have l:=z w _ h;obtain⟨y,q,n⟩:=F w g i _ l G.T.g j;exact oJ l G.T.g G.T.b G.T.builtins G.T.nolimit o d c (Az b p) A n q (λH c d=>r w H a ns b c d) λH e s'=>m w H f e s'
def FE(s:Stmt):Arguments:=match s with
 | .FunctionDef _ a _ _ _ _ _ _ _ _=>a
 | _=>{ posonlyargs:=[],args:=[],vararg:=none,kwonlyargs:=[],kw_defaults:=[],kwarg:=none,defaults:=[] }
def B1(s:Stmt):List Stmt:=match s with
 | .FunctionDef _ _ b _ _ _ _ _ _ _=>b
 | _=>[]
def AI(s:Stmt):Scope:=match s with
 | .FunctionDef _ _ _ _ _ _ sc _ _ _=>sc
 | _=>{ kind:=.function,names:=[],isGenerator:=false,isCoroutine:=false }
abbrev CX0:EI:=λ_ _ _ _ _ _=>False
abbrev E0:XK:=λ_ _ _=>False
def da:HU CX0 X E0:=λ_ _ _ _ _ _ _ h=>h.elim
structure Cr(K:FG)(x qual:Str)(st:Stmt)(f:Addr)(fd:FuncData):Prop where
 ex:∃(oc:Value) (od:Option Addr) (kV doc pm:Value) (an:Option Addr) (cdv ct:Value) (osl:Array (Option Value)),
  fd=fnOf x qual (FE st) (B1 st) (AI st) .none kV doc pm an cdv ct/\K.lookup f=some {oc,od,.func fd,osl}/\codeIn K cdv qual=true
 kp:keepIn K (.ref f)=true
section
variable{P:Program}{w:World}{K:FG}{mg:Str->Option Value}{base:Heap}
def Cr.ok{x b:Str}{g:Stmt}{f:Addr}{l:FuncData}{N j:List Str}{k:Nat}{h:Sp}(F:Cr K x b g f l)(S:CQ N j (AI g))(i:∀d H Q E,h d H Q E->d.length=j.length)(e:∀(c:Value) (A:Around) (a:List Env) (s:Shared) (H:Hp) (d:List V) (Q:VK) (E:XK),AQ k (A.deeper (envOfC b (AI g) s.heap.objs.size f c))->h d H Q E->
  ∃t,CA (Cs CX0 P w K mg base N b (AI g) f c A a s H E).nox (B1 g) t/\t { nx:=λ_ b=>Q .non b,rt:=Q } (B0 N d) H):BS P w K mg base CX0 (k+1) f l j h:=by
 obtain⟨n,f,kV,b,j,m,c,l,h,rfl,f,b⟩:=F.ex;refine nT f b S i λA a s H d Q E f b=>?_
 obtain⟨t,h,q⟩:=e c A a s H d Q E f b;exact⟨t,h.nox,q⟩
def Cr.binds{x a:Str}{d:Stmt}{f:Addr}{j:FuncData}{i:List Str}(F:Cr K x a d f j)(h:∀(kV b e:Value) (g:Option Addr) (c f:Value) (us:List Value),us.length=i.length->bindArgs (fnOf x a (FE d) (B1 d) (AI d) .none kV b e g c f) {us,[]}=pure (i.zip us)):F7 K j i []:=by
 obtain⟨l,a,kV,b,e,g,c,f,i,rfl,j,a⟩:=F.ex;exact .all (h kV b e g c f)
def oK{x a:Str}{st:Stmt}{f:Addr}{j:Value}{m i:Option Addr}{e:Array (Option Value)}{kV d g b h:Value}(l:K.lookup f=some {j,m,.func (fnOf x a (FE st) (B1 st) (AI st) .none kV d g i b h),e})(c:codeIn K b a=true)(k:keepIn K (.ref f)=true):Cr K x a st f (fnOf x a (FE st) (B1 st) (AI st) .none kV d g i b h):={⟨j,m,kV,d,g,i,b,h,e,rfl,l,c⟩,k}
end
def oL{k:Nat}(a:AQ k A):A.units+2<cLine:=Cj (Di (by decide:2<=64) _) a.units
def eA{n:Nat}(h:n<=1000):n<sizeLine:=Cj h 'z'
def pv(i:Nat){x:Str}(b:autoParam (X.N[i]?=some x) uR)(d:Vis X.env.scope x:=by first | exact Or.inl rfl | exact Or.inr (Or.inl rfl) | exact Or.inr (Or.inr rfl))(c:autoParam 'u' uD)(a:autoParam ((x == ("__classdict__" : Str))=false) uD):PE X (.Name x pos) (Bx i):=m7 b d c a
def db{A B:Prop}(h:B):if false=true then A else B:=by
 rw[if_neg BA];exact h
def cE{A B:Prop}(h:A):if true=true then A else B:=by
 rw[if_pos rfl];exact h
def BH(H H':Hp):Prop:=∀b o,H b=some o->H' b=some o
def BH.refl(H:Hp):BH H H:=λ_ _ h=>h
def BH.seq{K:FG}{H c:Hp}{a:Addr}{b:List V}(e:BH H c)(h:AV K H a b):AV K c a b:=by
 rcases h with (h | ⟨o,h⟩) | h
 ·exact .inl (.inl (e _ _ h))
 ·exact .inl (.inr {o,e _ _ h})
 ·exact .inr h
section
variable{L:Type}[DecidableEq L]
def Cd(kvs:List (L×V))(k:L):Option V:=(kvs.find? λkv=>decide (kv.1=k)).map (·.2)
def Bh(kvs:List (L×V))(k:L)(v:V):List (L×V):=
 if (kvs.any λkv=>decide (kv.1=k))=true then kvs.map (λkv=>if kv.1=k then (kv.1,v) else kv) else kvs++[(k,v)]
def cf{p:L×V}{r:List (L×V)}{k:L}(e:p.1=k):Cd (p::r) k=some p.2:=by simp[Cd,FZ,e]
def cg{p:L×V}{r:List (L×V)}{k:L}(e:¬p.1=k):Cd (p::r) k=Cd r k:=by simp[Cd,FZ,e]
theorem de(k:L):∀a:List (L×V),(a.any λb=>decide (b.1=k))=(Cd a k).isSome
 | []=>rfl
 | p::r=>by
   rw[List.any_cons];by_cases e:p.1=k
   ·simp only[cf e,az e,Bool.true_or,Option.isSome_some]
   ·rw[cg e,aw e,Bool.false_or];exact de k r
def df(a:List (L×V))(k:L)(v:V):(Bh a k v).length<=a.length+1:=by
 unfold Bh;split
 ·rw[Ag];omega
 ·rw[A8,B4,FY];omega
theorem DH.isSome_eq(r:DH o u):o.isSome=u.isSome:=by
 cases o with
 | none=>cases u with
   | none=>rfl
   | some _=>exact(show False from r).elim
 | some _=>cases u with
   | none=>exact(show False from r).elim
   | some _=>rfl
theorem DH.getD(r:DH o u)(rd:Aj d d'):Aj (o.getD d) (u.getD d'):=by
 cases o with
 | none=>cases u with
   | none=>exact rd
   | some _=>exact(show False from r).elim
 | some _=>cases u with
   | none=>exact(show False from r).elim
   | some _=>exact r
theorem KV.val(r:KV c g)(k:L):DH (Cd c k) (valueAt g k):=by
 unfold KV at r;induction r with
 | nil=>exact True.intro
 | @cons p q b a h t ih=>
   obtain⟨d,f⟩:=h;by_cases e:p.1=k
   ·have e':q.1=k:=d.symm.trans e
    have b:valueAt (q::a) k=some q.2:=by simp[valueAt,FZ,e']
    rw[cf e,b];exact f
   ·have e':¬q.1=k:=λz=>e (d.trans z)
    have b:valueAt (q::a) k=valueAt a k:=by simp[valueAt,FZ,e']
    rw[cg e,b];exact ih
theorem KV.any{a:List (L×V)}{c:List (L×Value)}(r:KV a c)(k:L):(a.any λb=>decide (b.1=k))=c.any λb=>decide (b.1=k):=by
 unfold KV at r;induction r with
 | nil=>rfl
 | cons h t ih=>rw[List.any_cons,List.any_cons,ih,h.1]
theorem KV.repl(r:KV b d)(k:L)(f:Aj y u) :
 KV (b.map λa=>if a.1=k then (a.1,y) else a) (d.map λa=>if a.1=k then (a.1,u) else a):=by
 unfold KV at r ⊢;induction r with
 | nil=>exact .nil
 | @cons p q c a h t ih=>
   rw[BX,BX];refine .cons ?_ ih;obtain⟨a,c⟩:=h;by_cases e:p.1=k
   ·rw[if_pos e,if_pos (a.symm.trans e)];exact⟨a,f⟩
   ·rw[if_neg e,if_neg (λz=>e (a.trans z))];exact⟨a,c⟩
def KV.put(r:KV a b)(k:L)(c:Aj y u):KV (Bh a k y) (stored b k u):=by
 unfold Bh stored;rw[r.any k];by_cases e:(b.any λd=>decide (d.1=k))=true
 ·rw[if_pos e,if_pos e];exact r.repl k c
 ·rw[if_neg e,if_neg e];exact Paired.snoc r ⟨rfl,c⟩
def KV.length{a:List (L×V)}{b:List (L×Value)}(r:KV a b):a.length=b.length:=Paired.length r
end
def ci(r:Aj (kV k) u):(BL P w).is k u=true:=by
 cases k with
 | inl i=>obtain⟨t,e⟩:=(show ∃t,u=Value.int i t from r);subst e;exact mM P w i t
 | inr x=>obtain⟨t,e⟩:=(show ∃t,u=Value.str x t from r);subst e;exact mN P w x t
theorem i3:∀{a:List Au} {us:List Value},Aq (a.map kV) us->ItemsAre (BL P w) a us
 | [],_,r=>by rw[List.map_nil] at r;cases r;exact .nil
 | k::a,_,r=>by
   rw[BX] at r;cases r with
   | cons h t=>exact .cons (ci h) (i3 t)
abbrev KT(H:Hp):List (List Ak×V)->List (List Ak×Addr×Value)->Prop:=Paired λp q=>p.1=q.1/\Do H q.2.1 p.1/\Aj p.2 q.2.2
theorem KT.val(r:KT H c g)(k:List Ak):DH (Cd c k) ((atKey g k).map (·.2)):=by
 induction r with
 | nil=>exact True.intro
 | @cons p q b a h t ih=>
   obtain⟨d,_,f⟩:=h;by_cases e:p.1=k
   ·have e':q.1=k:=d.symm.trans e
    have b:atKey (q::a) k=some q.2:=by simp[atKey,FZ,e']
    rw[cf e,b];exact f
   ·have e':¬q.1=k:=λz=>e (d.trans z)
    have b:atKey (q::a) k=atKey a k:=by simp[atKey,FZ,e']
    rw[cg e,b];exact ih
theorem KT.repl(r:KT H b d)(k:List Ak)(f:Aj y u) :
 KT H (b.map λa=>if a.1=k then (a.1,y) else a) (d.map (putAt k u)):=by
 induction r with
 | nil=>exact .nil
 | @cons p q c a h t ih=>
   rw[BX,BX];refine .cons ?_ ih;obtain⟨a,c,g⟩:=h;unfold putAt;by_cases e:p.1=k
   ·rw[if_pos e,if_pos (a.symm.trans e)];exact⟨a,c,f⟩
   ·rw[if_neg e,if_neg (λz=>e (a.trans z))];exact⟨a,c,g⟩
def KT.put(r:KT H a c)(k:List Ak)(f:Do H b k)(d:Aj y u) :
 KT H (Bh a k y) (storedH c k b u):=by
 have e:(a.any λb=>decide (b.1=k))=(atKey c k).isSome:=by
  rw[de,(r.val k).isSome_eq,Option.isSome_map]
 unfold Bh storedH;rw[e];by_cases q:(atKey c k).isSome=true
 ·rw[if_pos q,if_pos q];exact r.repl k d
 ·rw[if_neg q,if_neg q];exact Paired.snoc r ⟨rfl,f,d⟩
def KT.keeps(r:KT H a d)(e:∀b c,H b=some (.tup c)->H' b=some (.tup c)):KT H' a d:=
 Paired.mapP r λ_ _ z=>{z.1,z.2.1.keeps e,z.2.2}
def i4(b:Bd P w H h)(e:Rd H a u):Bb P w H h a u:=e.ok b
def cj(d:Bd P w H h)(e:Rd H a (.dK b)):b.length<=sizeLine/\(a == sysModules)=false/\∃c,KV b c/\h.DictOf (BL P w) a c:=
 show Bb P w H h a (.dK b) from i4 d e
def i5(d:Bd P w H h)(e:H a=some (.dK b)):b.length<=sizeLine/\(a == sysModules)=false/\∃c,KV b c/\h.DictOf (BL P w) a c:=cj d (.inl e)
def oM{b:List Au}(i:Bd P w H h)(e:H a=some (.tup (b.map kV))):(tupleKind (BL P w)).is h b a:=by
 obtain⟨_,c,r,⟨o,f,g,n,d⟩,_⟩:=(show Bb P w H h a (.tup (b.map kV)) from i a _ e);exact{o,c.toArray,n,f,g,d,by simpa using i3 r}
theorem oN(a:Bd P w H h):∀{k:Ak} {v:V} {u:Value},KIs H k v->Aj v u->B8 P w h k u
 | .inl i,_,_,e,r=>by subst e;obtain⟨t,rfl⟩:=r;exact ie i t
 | .inr x,_,_,e,r=>by subst e;obtain⟨t,rfl⟩:=r;exact ig x t
 | .t l,_,_,⟨b,e,q⟩,r=>by subst e;cases r;exact{b,rfl,oM a q}
theorem i6(g:Bd P w H h):∀{f:List Ak} {e:List V} {us:List Value},Paired (KIs H) f e->Aq e us->Paired (B8 P w h) f us
 | _,_,_,.nil,.nil=>.nil
 | _,_,_,.cons a b,.cons c d=>.cons (oN g a c) (i6 g b d)
def key_of(c:Bd P w H h)(e:Do H a l):(EL P w).is h l a:=by
 obtain⟨d,e,f⟩:=e;obtain⟨_,b,r,⟨o,i,j,n,g⟩,_⟩:=(show Bb P w H h a (.tup d) from c a _ e);exact{o,b.toArray,n,i,j,g,by simpa using i6 c f r}
def cF{A:Around}(a:A.units+2<cLine):(EL P w).room A.in1:=by
 show A.in1.units+1<cLine;rw[Around.in1_units];exact a
def cp(d:Bd P w H h)(e:Rd H a (.dT b)):b.length<=sizeLine/\(a == sysModules)=false/\
 ∃c,KT H b c/\h.DictOfH (EL P w) a c:=by
 obtain⟨z,y,c,r,o,es,i,g,j,f,l,m⟩:=(show Bb P w H h a (.dT b) from i4 d e);refine{z,y,c,r,o,es,i,g,j,f,l,λx a=>?_,m};have c:∀{l:List (List Ak×V)} {m:List (List Ak×Addr×Value)},KT H l m->∀x∈m,(EL P w).is h x.1 x.2.1:=by
  intro l m q;induction q with
  | nil=>intro x a;exact nomatch a
  | @cons p q h g f t ih=>
    intro x a;rcases AK.mp a with e | a
    ·subst e
     exact key_of d (by rw[<-f.1];exact f.2.1)
    ·exact ih x a
 exact c r x a
def fM(d:Bd P w H h)(e:H a=some (.dT b)):b.length<=sizeLine/\(a == sysModules)=false/\
 ∃c,KT H b c/\h.DictOfH (EL P w) a c:=cp d (.inl e)
def BM(H:Hp)(a:Addr)(y:V)(r:Option V):Prop:=
 (∃kvs k,Rd H a (.dK kvs)/\y=kV k/\r=Cd kvs k)\/∃kvs k b,Rd H a (.dT kvs)/\y=.ref b/\Do H b k/\r=Cd kvs k
def EM(H:Hp)(a:Addr)(y v:V)(H':Hp):Prop:=
 (∃kvs k,H a=some (.dK kvs)/\y=kV k/\kvs.length<sizeLine/\H'=Ad H a (.dK (Bh kvs k v)))\/
 ∃kvs k b,H a=some (.dT kvs)/\y=.ref b/\Do H b k/\kvs.length<sizeLine/\H'=Ad H a (.dT (Bh kvs k v))
def BM.k{H:Hp}{a:Addr}{b:List (Au×V)}{k:Au}(e:H a=some (.dK b)):BM H a (kV k) (Cd b k):=.inl {b,k,.inl e,rfl,rfl}
def BM.t{H:Hp}{a b:Addr}{c:List (List Ak×V)}{k:List Ak}(e:H a=some (.dT c))(d:Do H b k):BM H a (.ref b) (Cd c k):=.inr {c,k,b,.inl e,rfl,d,rfl}
def EM.k{H:Hp}{a:Addr}{b:List (Au×V)}{k:Au}{v:V}(e:H a=some (.dK b))(c:b.length<sizeLine):EM H a (kV k) v (Ad H a (.dK (Bh b k v))):=.inl ⟨b,k,e,rfl,c,rfl⟩
def EM.t{H:Hp}{a b:Addr}{c:List (List Ak×V)}{k:List Ak}{v:V}(e:H a=some (.dT c))(d:Do H b k)(f:c.length<sizeLine) :
 EM H a (.ref b) v (Ad H a (.dT (Bh c k v))):=.inr ⟨c,k,b,e,rfl,d,f,rfl⟩
def Ab.big(I:Ab X a Y H s):sysModules<s.heap.objs.size:=by
 have h:mainGlobals<s.heap.objs.size:=(I.mod.glob.keeps I.bk).lt;exact Nat.lt_trans 'z' h
def oO(m:A.units+2<cLine)(I:Ab X q Y H s)(g:BM H a y (some v))(i:Aj y u)(h:∀w' s',Ab X q Y H s'->Aj v w'->Q w' s') :
 wpAny 'e' A (getItem (.ref a) u) Q E s:=by
 rcases g with⟨a,k,e,f,l⟩ | ⟨a,k,b,e,f,j,l⟩
 ·subst f
  obtain⟨z,n,p,a,d⟩:=cj I.hok e;obtain⟨w',g,c⟩:=DH.some_of (v:=v) (o:=valueAt p k) (by rw[l];exact a.val k);exact wpAny_getItem_of (ci i) d.mapOf g (h w' _ (I.tok _) c)
 ·subst f
  cases (show u=Value.ref b from i);obtain⟨z,n,f,a,d⟩:=cp I.hok e;obtain⟨w',g,c⟩:=DH.some_of (v:=v) (o:=(atKey f k).map (·.2)) (by rw[l];exact a.val k);obtain⟨p,e,b⟩:=Option.map_eq_some_iff.mp g;refine wpAny_getItem_heap (cF m) (key_of I.hok j) d e ?_;rw[b];exact h w' _ (I.tok _) c
def oP(j:A.units+2<cLine)(I:Ab X m Y H s)(g:BM H a y o)(i:Aj y u)(h:∀s',Ab X m Y H s'->Q (.bool o.isSome) s') :
 wpAny 'e' A (compareOp .In u (.ref a)) Q E s:=by
 rcases g with⟨a,k,e,d,l⟩ | ⟨a,k,b,e,d,g,l⟩
 ·subst d
  obtain⟨z,f,n,a,c⟩:=cj I.hok e;refine wpAny_in_of (ci i) f c.mapOf ?_;rw[<-(a.val k).isSome_eq,<-l];exact h _ (I.tok _)
 ·subst d
  cases (show u=Value.ref b from i);obtain⟨z,f,d,a,c⟩:=cp I.hok e;refine wpAny_in_heap (cF j) (key_of I.hok g) f c ?_;have q:=(a.val k).isSome_eq;rw[Option.isSome_map] at q;rw[<-q,<-l];exact h _ (I.tok _)
def oQ(j:A.units+2<cLine)(I:Ab X m Y H s)(g:BM H a y o)(i:Aj y u)(h:∀s',Ab X m Y H s'->Q (.bool (!o.isSome)) s') :
 wpAny 'e' A (compareOp .NotIn u (.ref a)) Q E s:=by
 rcases g with⟨a,k,e,d,l⟩ | ⟨a,k,b,e,d,g,l⟩
 ·subst d
  obtain⟨z,f,n,a,c⟩:=cj I.hok e;refine wpAny_notIn_of (ci i) f c.mapOf ?_;rw[<-(a.val k).isSome_eq,<-l];exact h _ (I.tok _)
 ·subst d
  cases (show u=Value.ref b from i);obtain⟨z,f,d,a,c⟩:=cp I.hok e;refine wpAny_notIn_heap (cF j) (key_of I.hok g) f c ?_;have q:=(a.val k).isSome_eq;rw[Option.isSome_map] at q;rw[<-q,<-l];exact h _ (I.tok _)
def dg{t':Nat}(I:Ab X f Y H s)(d:Mut (H a))(h:Heap.SameBut a s.heap h')(g:∃q,h'.get? a=some q)(c:Bb X.prog X.w (Ad H a ob) h' a ob) :
 Ab X f Y (Ad H a ob) { s with heap:=h',toks:=t' }:=
 I.write (x:=a) (e:=a) d (.inl rfl) (λb q a z=>(h.2 b a).trans z) g c
def i7(z:b.length<=sizeLine)(f:(a == sysModules)=false)(c:KV b d)(e:h'.DictOf (BL P w) a d) :
 Bb P w H' h' a (.dK b):=⟨z,f,d,c,e⟩
def oR(G:A.units+2<cLine)(I:Ab X C Y H s)(g:EM H a y v H')(B:Aj y u)(x:Aj v r)(h:∀s',Ab X C Y H' s'->Q () s') :
 wpAny 'e' A (setItem (.ref a) u r) Q E s:=by
 rcases g with⟨c,k,e,i,l,o⟩ | ⟨c,k,b,e,i,p,l,o⟩
 ·subst i o
  obtain⟨z,m,f,d,l⟩:=i5 I.hok e;have n:f.length<=sizeLine:=by rw[<-d.length];exact z
  have g:(Bh c k v).length<=sizeLine:=by have:=df c k v;omega
  refine wpAny_setItem_pairs (hsz:=n) (ci B) l λr f j=>h _ ?_
  have s:∃q,r.get? a=some q:=let ⟨q,_,_,a,_⟩:=f;⟨q,a⟩;exact dg I (by rw[e];exact True.intro) j s (i7 g m (d.put k x) f)
 ·subst i o
  cases (show u=Value.ref b from B);obtain⟨z,m,i,d,l⟩:=fM I.hok e;have n:i.length<=sizeLine:=by rw[<-Paired.length d];exact z
  have g:(Bh c k v).length<=sizeLine:=by have:=df c k v;omega
  refine wpAny_setItem_heap (hsz:=n) (cF G) (key_of I.hok p) l λr f j=>h _ ?_
  obtain⟨q,es,i,a,n,l,h,_,o⟩:=f;refine dg I (by rw[e];exact True.intro) j ⟨q,a⟩ {g,m,_,(d.put k p x).keeps λc d b=>?_,q,es,i,a,n,l,h,o};rw[af (bP b e (λz=>nomatch z))];exact b
def HW(i:Expr):Prop:=∀ov iv,subscripted i false ov iv=operate [ov,iv] (getItem ov iv)
def oS{T a:String}(d:typeLookup (.type T) "__getitem__" = pure (some (.builtin a)))(e:HW slice)(h:wpAny 'r' A (eval value env) (λo b=>wpAny 'r' A (eval slice env) (λi a=>a.TypeIs o T/\wpAny 'r' A (getItem o i) Q E a) E b) E s) :
 wpAny 'r' A (eval (.Subscript value slice pos) env) Q E s:=by
 refine Subscript_ (C4 h (λo b c=>C4 c (λi a b=>?_) λ_ _ x=>x) λ_ _ x=>x);obtain⟨c,b⟩:=b;unfold subscriptTail;refine Ac ?_;rw[getitemInPython_of_ne c.not_modules];refine Ac (wpAny_specialOf c d ?_);have fin:wpAny 'r' A (subscripted slice false o i) (λr c=>wpAny 'r' A (letTemporaryGo value o r >>= λ_=>pure r) Q E c) E a:=by
  rw[e o i];exact wpAny_operating (C4 b (λr c a=>Ac (wpAny_letTemporaryGo (An a))) λ_ _ x=>x)
 first
  | exact An (Ac fin)
  | exact Ac (An (Ac fin))
  | exact Ac fin
def oT(I:Ab X i Y H s)(g:BM H a y o):s.TypeIs (.ref a) "dict":=by
 rcases g with⟨d,k,e,_,_⟩ | ⟨d,k,b,e,_,_,_⟩
 ·obtain⟨_,_,h,_,c⟩:=cj I.hok e
  exact c.typeIs
 ·obtain⟨_,_,f,_,c⟩:=cp I.hok e
  exact c.typeIs
def Ku(td ty:TE):TE:=λY H Q=>td Y H λx H1=>ty Y H1 λy H2=>∃a v,x=.ref a/\BM H2 a y (some v)/\Q v H2
def Kv(ty td:TE):TE:=λY H Q=>ty Y H λy H1=>td Y H1 λx H2=>∃a o,x=.ref a/\BM H2 a y o/\Q (.bl o.isSome) H2
def Kw(ty td:TE):TE:=λY H Q=>ty Y H λy H1=>td Y H1 λx H2=>∃a o,x=.ref a/\BM H2 a y o/\Q (.bl (!o.isSome)) H2
def Kx(td ty tv:TE):TS:=λD Y H=>tv Y H λv H1=>td Y H1 λx H2=>ty Y H2 λy H3=>∃a H4,x=.ref a/\EM H3 a y v H4/\D.nx Y H4
def dh(l:X.A.units+2<cLine)(j:PE X o td)(d:PE X i ty)(r:HW i):PE X (.Subscript o i pos) (Ku td ty):=by
 intro c s Y H Q I h;refine oS PySem.F.slot_dict_getitem.lookup r (ai (j c s Y H _ I h) λu f ⟨x,H1,I1,e,m⟩=>ai (d c f Y H1 _ I1 m) λC B hI96=>?_);obtain⟨y,H2,I2,p,a,v,n,g,q⟩:=hI96;subst n;obtain rfl:u=Value.ref a:=e;exact{oT I2 g,oO l I2 g p λw' z I3 b=>⟨v,H2,I3,b,q⟩}
def oU(e:X.A.units+2<cLine)(b:PE X i ty)(d:PE X o td):PC X .In i o (Kv ty td):=by
 intro a s Y H Q I h;refine ai (b a s Y H _ I h) λg c ⟨y,H1,I1,h,f⟩=>ai (d a c Y H1 _ I1 f) λu a hI97=>?_
 obtain⟨x,H2,I2,c,a,f,d,g,i⟩:=hI97;subst d;obtain rfl:u=Value.ref a:=c;exact oP e I2 g h λa I3=>{.bl f.isSome,H2,I3,rfl,i}
def i8(e:X.A.units+2<cLine)(b:PE X i ty)(d:PE X o td):PC X .NotIn i o (Kw ty td):=by
 intro a s Y H Q I h;refine ai (b a s Y H _ I h) λg c ⟨y,H1,I1,h,f⟩=>ai (d a c Y H1 _ I1 f) λu a hI98=>?_
 obtain⟨x,H2,I2,c,a,f,d,g,i⟩:=hI98;subst d;obtain rfl:u=Value.ref a:=c;exact oQ e I2 g h λa I3=>{.bl (!f.isSome),H2,I3,rfl,i}
def fN(z:X.A.units+2<cLine)(e:PE X o td)(d:PE X i ty)(G:PE X value tv)(l:swapsWith value (some (.Subscript o i pos')) pos.line X.env=pure false) :
 PS X (.Assign [.Subscript o i pos'] value pos) (Kx td ty tv):=by
 intro b s Y H D I h;refine wpAny_Assign_Subscript (ai (G b s Y H _ I h) λr q ⟨v,H1,I1,n,f⟩=>ai (e b q Y H1 _ I1 f) λu C ⟨x,H2,I2,p,j⟩=>ai (d b C Y H2 _ I2 j) λN J hI99=>?_) l;obtain⟨y,H3,I3,E,a,c,m,g,B⟩:=hI99;subst m;obtain rfl:u=Value.ref a:=p;exact oR z I3 g E n λM I4=>⟨Y,c,I4,B⟩
def oV(h:Heap)(a:sysModules<h.objs.size):Bb P w H (h.push { cls:=.type "dict",data:=.dict #[] }) h.objs.size (.dK []):=
 {AE _,beq_eq_false_iff_ne.mpr (Ne.symm (Bk a)),[],.nil,Heap.DictOf.new h}
def fO(h:Heap)(a:sysModules<h.objs.size):Bb P w H (h.push { cls:=.type "dict",data:=.dict #[] }) h.objs.size (.dT []):=
 {AE _,beq_eq_false_iff_ne.mpr (Ne.symm (Bk a)),[],.nil,_,#[],0,Bi _ rfl,⟨rfl,rfl,rfl⟩,rfl,rfl,List.nodup_nil}
def Ky:TE:=λ_ H Q=>∀p,H p=none->Q (.ref p) (Ad H p (.dT []))
def oW:PE X (.Dict [] [] pos) Ky:=λb s Y H Q I h=>
 wpAny_Dict_empty {.ref s.heap.objs.size,_,I.laid (a:=s.heap.objs.size) (o:=.dT []) (t':=s.toks) (λ_ _ q=>AM _ q) (Am _) (fO s.heap I.big),rfl,h _ (I.hok.fresh (Am _))}
def GH:List (TE×TE)->St->Hp->(List (V×V)->Hp->Prop)->Prop
 | [],_,H,Q=>Q [] H
 | (tk,tv)::r,Y,H,Q=>tk Y H λx H1=>tv Y H1 λy H2=>GH r Y H2 λps H3=>Q ((x,y)::ps) H3
abbrev VV:List (V×V)->List (Value×Value)->Prop:=Paired λp q=>Aj p.1 q.1/\Aj p.2 q.2
instance PPs(X:Cx)(pos:Pos)(keys:List (Option Expr))(values:List Expr)(trs:List (TE×TE)):Prop:=
 ∀(A3:List 'p') (s:Shared) (Y:St) (H:Hp) (Q:List (V×V)->Hp->Prop),Ab X A3 Y H s->GH trs Y H Q->
  wpAny 'e' X.A (evalPairs (pairTrees keys values X.env pos)) (λvs s'=>∃ps H',Ab X A3 Y H' s'/\VV ps vs/\Q ps H') X.xe s
def fQ:PPs X pos [] [] []:=λa s Y H Q I h=>pairTrees_nil_walk {[],H,I,.nil,h}
def eB(b:PE X k tk)(g:PE X v tv)(i:PPs X pos e f trs) :
 PPs X pos (some k::e) (v::f) ((tk,tv)::trs):=λa s Y H Q I h=>
 pairTrees_cons_walk (ai (b a s Y H _ I h) λu c ⟨x,H1,I1,b,d⟩=>ai (g a c Y H1 _ I1 d) λh c ⟨y,H2,I2,d,g⟩=>
  ai (i a c Y H2 _ I2 g) λj i ⟨h,H3,I3,a,c⟩=>{(x,y)::h,H3,I3,.cons ⟨b,d⟩ a,c})
def EZ(kvs more:List (Au×V)):List (Au×V):=more.foldl (λacc kv=>Bh acc kv.1 kv.2) kvs
theorem KV.merge:∀{a:List (Au×V)} {d:List (Au×Value)} {b:List (Au×V)} {c:List (Au×Value)},KV a d->KV b c->KV (EZ b a) (merged c d):=by
 intro a d b c r;unfold KV at r;induction r generalizing b c with
 | nil=>intro q;exact q
 | @cons p q a d h t ih=>
   intro a;have e:KV (Bh b p.1 p.2) (stored c q.1 q.2):=by
    have:=a.put p.1 h.2;rw[<-h.1];exact this
   exact ih e
theorem i9:∀(b a:List (Au×V)),(EZ a b).length<=a.length+b.length
 | [],a=>by show a.length<=a.length+0;omega
 | p::r,a=>by
   have b:=i9 r (Bh a p.1 p.2);have b:=df a p.1 p.2;show (EZ (Bh a p.1 p.2) r).length<=_;rw[B4];omega
theorem ja:∀{d:List (Au×V)} {b:List (Value×Value)},VV (d.map λa=>(kV a.1,a.2)) b->∃e,Carries (BL P w) b e/\KV d e
 | [],_,r=>by rw[List.map_nil] at r;cases r;exact{[],True.intro,.nil}
 | p::d,_,r=>by
   rw[BX] at r;cases r with
   | @cons a b c f h t=>
     obtain⟨e,c,q⟩:=ja (P:=P) (w:=w) t;obtain⟨f,a⟩:=b;exact{(p.1,a)::e,{ci h.1,rfl,c},.cons ⟨rfl,h.2⟩ q}
def Jw(trs:List (TE×TE)):TE:=λY H Q=>∀p,H p=none->GH trs Y (Ad H p (.dK [])) λps H2=>H2 p=some (.dK [])/\∃kvs:List (Au×V),ps=kvs.map (λkv=>(kV kv.1,kv.2))/\kvs.length<=15/\Q (.ref p) (Ad H2 p (.dK (EZ [] kvs)))
def jb(h:PPs X pos keys values trs)(b:keys.all (·.isSome)=true)(e:keys.length=values.length)(f:keys≠[])(c:keys.length<=15):PE X (.Dict keys values pos) (Jw trs):=by
 intro g s Y H Q I q;have d:=I.hok.fresh (Am s.heap.objs.size);have I1:=I.laid (a:=s.heap.objs.size) (o:=.dK []) (h':=s.heap.push { cls:=.type "dict",data:=.dict #[] }) (t':=s.toks) (λ_ _ q=>AM _ q) (Am _) (oV s.heap I.big);refine wpAny_Dict_walk (knd:=BL X.prog X.w) b e f c (ai (h g _ Y _ _ I1 (q _ d)) λb c hI100=>?_);obtain⟨g,H2,I2,b,e,d,f,c,h⟩:=hI100;subst f;obtain⟨l,c,g⟩:=ja (P:=X.prog) (w:=X.w) b;obtain⟨z,m,i,f,j⟩:=i5 I2.hok e;cases f;refine{l,c,j,λh' b f=>{.ref s.heap.objs.size,_,?_,rfl,h}};have i:(EZ [] d).length<=sizeLine:=by
  have h:=i9 d [];rw[FY] at h;rw[sizeLine_eq];omega
 have c:∃q,h'.get? s.heap.objs.size=some q:=let ⟨q,_,_,d,_⟩:=b;⟨q,d⟩;exact dg I2 (by rw[e];exact True.intro) f c (i7 i m (g.merge .nil) b)
structure M2(X:Cx)(o:Expr)(m:Str)(apos:Pos)(e f:Expr)(cpos:Pos):Prop where
 base:attributeBase o m X.env (eval o X.env)=eval o X.env
 few:((backTo cpos (starEach [e,f] X.env)).all (λx=>!x.1)&&(backToKw cpos (keywordEach [] X.env)).all (λx=>x.1.isSome)
  && decide (([e,f]:List Expr).length+([]:List Keyword).length+(if ([]:List Keyword).isEmpty then 0 else 1)<30))=true
 line:(apos.endLine == cpos.line)=true
 trees:backTo cpos (starEach [e,f] X.env)=[(false,eval e X.env),(false,eval f X.env)]
instance IsD(H:Hp)(a:Addr):Prop:=(∃kvs,Rd H a (.dK kvs))\/∃kvs,Rd H a (.dT kvs)
def oX(I:Ab X n Y H s)(d:IsD H a) :
 s.TypeIs (.ref a) "dict"/\(∀b,Value.ref a=.ref b->∃c,s.heap.get? b=some c/\c.dict=none)/\(a == sysModules)=false:=by
 rcases d with⟨i,e⟩ | ⟨i,e⟩
 ·obtain⟨_,g,m,_,f⟩:=cj I.hok e
  refine{f.typeIs,λb q=>?_,g};cases q;obtain⟨c,_,_,h,j,_⟩:=f;exact⟨c,h,j.2.1⟩
 ·obtain⟨_,g,l,_,f⟩:=cp I.hok e
  refine{f.typeIs,λb q=>?_,g};cases q;obtain⟨c,_,_,h,j,_⟩:=f;exact⟨c,h,j.2.1⟩
def oY(m:A.units+2<cLine)(I:Ab X n Y H s)(g:BM H a y o)(i:Aj y u)(rd:Aj d r)(h:∀w' s',Ab X n Y H s'->Aj (o.getD d) w'->Q w' s') :
 wpAny 'e' A (call (.builtin "dict.get") [.ref a,u,r]) Q E s:=by
 rcases g with⟨c,k,e,f,l⟩ | ⟨c,k,b,e,f,j,l⟩
 ·subst f
  obtain⟨z,g,o,c,d⟩:=cj I.hok e;refine call_meetsIn PySem.F.slot_dict_get d.typeIs PySem.F.entry_dict_get (PySem.F.args_dict_get_3 _ _ _) (meets_dict_get_default (BL X.prog X.w) a (ci i) g r) {_,d.mapOf,h _ _ (I.tok _) ?_};rw[l];exact(c.val k).getD rd
 ·subst f
  cases (show u=Value.ref b from i);obtain⟨z,g,f,c,d⟩:=cp I.hok e;refine call_meetsIn PySem.F.slot_dict_get d.typeIs PySem.F.entry_dict_get (PySem.F.args_dict_get_3 _ _ _) (meetsH_dict_get_default (EL X.prog X.w) a b g r) {cF m,k,f,key_of I.hok j,d,h _ _ (I.tok _) ?_};rw[l];exact(c.val k).getD rd
def Kz(td ty tx:TE):TE:=λY H Q=>td Y H λx H1=>∃a,x=.ref a/\IsD H1 a/\ty Y H1 λy H2=>tx Y H2 λz H3=>∃o,BM H3 a y o/\Q (o.getD z) H3
def oZ(l:X.A.units+2<cLine)(a:PE X o td)(g:PE X e ty)(i:PE X f tx)(m:M2 X o "get" apos e f cpos):PE X (.Call (.Attribute o "get" apos) [e,f] [] cpos) (Kz td ty tx):=by
 intro b s Y H Q I h;refine wpAny_Call_method m.base m.few m.line PySem.F.plainAttrs_dict PySem.F.slot_dict_get PySem.F.type_dict_get (ai (a b s Y H _ I h) λu j hI101=>?_);obtain⟨x,H1,I1,h,a,c,d,e⟩:=hI101;subst c;obtain rfl:u=Value.ref a:=h;obtain⟨c,f,_⟩:=oX I1 d;refine{c,f,?_};rw[m.trees];refine Calls.callWith_builtin rfl (Calls.evalArgs_plain (Calls.spliced_cons (ai (g b j Y H1 _ I1 e) λf c ⟨y,H2,I2,d,a⟩=>Calls.spliced_cons (ai (i b c Y H2 _ I2 a) λe c ⟨z,H3,I3,b,a,g,c⟩=>Calls.spliced_nil ?_))));exact oY l I3 g d b λw' e I4 a=>{_,H3,I4,a,c}
section
variable{L:Type}[DecidableEq L]
end
def E1(cells:List (Str×Addr)):List (Str×NameKind)->List (Str×Addr)->List (Str×Addr)
 | [],cs=>cs
 | (n,k)::r,cs=>E1 cells r (if k == .free then (match cells.lookup n with | some a=>(n,a)::cs | none=>cs) else cs)
theorem jc:∀(names:List (Str×NameKind)) (cs:List (Str×Addr)),(∀y∈names,y.2=.free->∃a,env.cells.lookup y.1=some a)->
 (forIn (m:=Sem) names cs λ(x:Str×NameKind) (r:List (Str×Addr))=>
  match x with
  | (b,kind)=>if (kind == .free)=true then do let a <-cellOf env b;pure (ForInStep.yield ((b,a)::r)) else pure (ForInStep.yield r))=pure (E1 env.cells names cs)
 | [],cs,_=>rfl
 | (n,k)::r,cs,h=>by
   rw[List.forIn_cons];have ih:=λb=>jc (env:=env) r b λy c=>h y (EA _ c)
   by_cases b:(k == NameKind.free)=true
   ·have c:k=.free:=by simpa using b
    obtain⟨a,d⟩:=h (n,k) EW c;simp only[b,if_true,E1,cellOf];have c:env.cells.lookup n=some a:=d;rw[c];exact ih _
   ·simp only[b,E1]
    exact ih _
def o0(h:∀y∈scope.names,y.2=.free->∃a,env.cells.lookup y.1=some a):closureFor scope env=pure (E1 env.cells scope.names []):=by
 simp only[closureFor];have e:=jc (env:=env) scope.names [] h;have a:=congrArg (λm:Sem (List (Str×Addr))=>m >>= pure) e;exact a
def di{α:Type}{x n:Str}{v:α}{l:List (Str×α)}:List.lookup x ((n,v)::l)=if x=n then some v else l.lookup x:=by
 rw[List.lookup_cons];by_cases e:x=n
 ·subst e;simp
 ·rw[if_neg e]
  have:(x == n)=false:=by simpa using e
  rw[this]
theorem jd{cells:List (Str×Addr)}:∀(names:List (Str×NameKind)) (cs:List (Str×Addr)) (x:Str) (c:Addr),
 (∀x c,cs.lookup x=some c->cells.lookup x=some c)->(E1 cells names cs).lookup x=some c->cells.lookup x=some c
 | [],cs,x,c,h,e=>h x c e
 | (n,k)::r,cs,x,c,h,e=>by
   refine jd r _ x c (λy d b=>?_) e;by_cases f:(k == NameKind.free)=true
   ·rw[if_pos f] at b
    cases c:cells.lookup n with
    | none=>rw[c] at b;exact h y d b
    | some a=>
      rw[c] at b;have b:List.lookup y ((n,a)::cs)=some d:=b;rw[di] at b;by_cases e:y=n
      ·rw[if_pos e] at b;cases b;rw[e];exact c
      ·rw[if_neg e] at b;exact h y d b
   ·rw[if_neg f] at b;exact h y d b
theorem je{cells:List (Str×Addr)}:∀(names:List (Str×NameKind)) (cs:List (Str×Addr)) (x:Str),(∃c,cs.lookup x=some c)->∃c,(E1 cells names cs).lookup x=some c
 | [],_,_,h=>h
 | (n,k)::r,cs,x,h=>by
   refine je r _ x ?_;by_cases b:(k == NameKind.free)=true
   ·rw[if_pos b]
    cases d:cells.lookup n with
    | none=>exact h
    | some a=>
      show ∃c,List.lookup x ((n,a)::cs)=some c;rw[di];by_cases e:x=n
      ·rw[if_pos e];exact{_,rfl}
      ·rw[if_neg e];exact h
   ·rw[if_neg b];exact h
theorem jf{cells:List (Str×Addr)}:∀(names:List (Str×NameKind)) (cs:List (Str×Addr)) (x:Str),(x,NameKind.free)∈names->(∃a,cells.lookup x=some a)->∃c,(E1 cells names cs).lookup x=some c
 | [],_,_,h,_=>nomatch h
 | (n,k)::r,cs,x,h,b=>by
   rcases AK.mp h with e | g
   ·have d:x=n:=congrArg Prod.fst e
    have f:NameKind.free=k:=congrArg Prod.snd e;subst d f;obtain⟨a,b⟩:=b;refine je r _ x ?_;show ∃c,List.lookup x (if (NameKind.free == NameKind.free)=true then (match cells.lookup x with | some a=>(x,a)::cs | none=>cs) else cs)=some c;rw[if_pos (by rfl),b];show ∃c,List.lookup x ((x,a)::cs)=some c;rw[di,if_pos rfl];exact{_,rfl}
   ·exact jf r _ x g b
instance pick(Y:St)(ixs:List (Option Nat)):St:=ixs.map λo=>match o with
 | some i=>(Y[i]?).join
 | none=>none
def BU(X:Cx)(N':List Str)(scope:Scope)(cl:List (Str×Addr))(C:Addr)(s:Shared)(H:Hp)(fp:List Addr):Cx:=
 { X with N:=N',s₀:=s,H₀:=H,env:=compEnvC scope cl C X.env,outer:=X.stack,ex:=fp,fn:=λ_=>false,pn:=[],xe:=λ_ _=>False }
def Fg(env:Env)(n:Str)(k:NameKind):NameKind:=if (k == NameKind.free&&env.scope.kind == .function&&env.kindOf n == some .cell)=true then .cell else k
theorem jg{env:Env}:∀{names:List (Str×NameKind)} {x:Str},(names.map λ(n,k)=>if (k == NameKind.free&&env.scope.kind == .function&&env.kindOf n == some .cell) then (n,NameKind.cell) else (n,k)).lookup x=(names.lookup x).map (Fg env x)
 | [],_=>rfl
 | (n,k)::r,x=>by
   have ih:=@jg env r x;rw[BX];have a:(if (k == NameKind.free&&env.scope.kind == .function&&env.kindOf n == some .cell)=true then (n,NameKind.cell) else (n,k))=(n,Fg env n k):=by
    unfold Fg;split<;>rfl
   show List.lookup x ((if (k == NameKind.free&&env.scope.kind == .function&&env.kindOf n == some .cell)=true then (n,NameKind.cell) else (n,k))::_)=_;rw[a,di,di];by_cases e:x=n
   ·rw[if_pos e,if_pos e,e];rfl
   ·rw[if_neg e,if_neg e];exact ih
structure E2(X:Cx)(N':List Str)(ixs:List (Option Nat))(scope:Scope):Prop where
 kind:scope.kind=.function
 nocell:∀y∈scope.names,y.2≠.cell
 loc:∀y∈scope.names,y.2=.local->scope.names.lookup y.1=some .local
 len:ixs.length=N'.length
 free:∀y∈scope.names,y.2=.free->X.env.scope.names.lookup y.1=some .cell\/X.env.scope.names.lookup y.1=some .free
 slot:∀(j i:Nat) (y:Str),N'[j]?=some y->ixs[j]?=some (some i)->X.N[i]?=some y/\scope.names.lookup y=some .free
open H in
def E2.clos(S:E2 X N' ixs scope)(I:Ab X c Y H s):closureFor scope X.env=pure 'v':=
 o0 λy a b=>I.ok.has y.1 (S.free y a b)
open H in
def Ab.comp{t':Nat}(I:Ab X B Y H s)(S:E2 X N' ixs scope)(i:∀b∈fp,Da X B H b)(f:∀b∈fp,∃o,s.heap.get? b=some o/\∀v,o.data≠.cell v)(n:∀b o,s.heap.get? b=some o->h'.get? b=some o)(l:h'.Ns s.heap.objs.size (λ_=>none)) :
 Ab (BU X N' scope 'v' s.heap.objs.size s H fp) [] (pick Y ixs) H { s with heap:=h',toks:=t' }:=by
 have d:∀x c,'v'.lookup x=some c->X.env.cells.lookup x=some c:=λx c e=>jd _ _ x c (λ_ _ z=>absurd z 'd') e
 have a:∀x c,X.env.cells.lookup x=some c->c<s.heap.objs.size:=λx c e=>by obtain⟨v,z⟩:=I.cell x c e;exact z.lt
 have a:∀b∈fp,b<s.heap.objs.size:=λb h=>by obtain⟨o,e,_⟩:=f b h;exact Heap.lt_size e
 have f:∀x,Env.kindOf (compEnvC scope 'v' s.heap.objs.size X.env) x=(scope.names.lookup x).map (Fg X.env x):=λx=>jg
 have g:∀x,scope.names.lookup x=some .free->∃c,'v'.lookup x=some c:=λx e=>
  jf _ _ x (PySem.mem_of_lookup e) (I.ok.has x (S.free _ (PySem.mem_of_lookup e) rfl))
 have freeOf:∀x,(Env.kindOf (compEnvC scope 'v' s.heap.objs.size X.env) x=some .cell\/Env.kindOf (compEnvC scope 'v' s.heap.objs.size X.env) x=some .free)->scope.names.lookup x=some .free:=λx e=>by
  rw[f x] at e;cases q:scope.names.lookup x with
  | none=>rw[q] at e;rcases e with e | e<;>cases e
  | some k=>
    rw[q] at e;have m:=S.nocell _ (PySem.mem_of_lookup q);unfold Fg at e;rcases e with e | e
    ·have e:=Option.some.inj e
     dsimp only at e;split at e
     ·rename_i j
      have:(k == NameKind.free)=true:=by
       cases p:(k == NameKind.free) with
       | true=>rfl
       | false=>rw[p] at j;simp at j
      rw[show k=.free by simpa using this]
     ·exact absurd e m
    ·have e:=Option.some.inj e
     dsimp only at e;split at e
     ·cases e
     ·rw[e]
 refine{{I.ok.mod,S.kind,I.ok.glob,I.ok.blt,Am _,λx y c j m=>I.ok.inj x y c (d x c j) (d y c m),λx A=>g x (freeOf x A),(λ_ _ z _=>Bool.noConfusion z),I.ok.hd,I.ok.frames,.inl rfl,λb h=>{Bk (a b h),λx c e=>(i b h).2.2.2.2.1 x c (d x c e)},λb o e=>I.bs b o e,Az I.ok.bsz I.sz,λb o e h=>?_,λb h z=>?_,I.stack,I.stkFree},rfl,I.bare,Un.kept n,{_,l,λj x v r m a=>?_},λx c e=>?_,I.hok.fresh (Am _),λx c e=>I.freeC x c (d x c e),(λp a=>absurd (show p∈([]:List 'p') from a) 'd'),I.hok.kept n,?_}
 ·-- base objects are no iterators
  have a:=i b h;rcases a.2.2.2.1 with z | z
  ·exact I.ok.noex b o e z
  ·exact absurd (AW (Heap.lt_size (I.ok.bs b o e).1) z) (Dj _)
 ·-- iterators are no frames
  have a:=i b h;rcases AK.mp (I.stkSub b z) with e | e
  ·exact a.2.1 e
  ·exact a.2.2.1 e
 ·-- the names
  have a:(pick Y ixs)[j]?=some (some v):=m;unfold pick at a;rw[AT] at a;cases q:ixs[j]? with
  | none=>rw[q] at a;cases a
  | some o=>
    rw[q] at a;cases o with
    | none=>cases a
    | some i=>
      have b:(Y[i]?).join=some v:=Option.some.inj a;have h:Y[i]?=some (some v):=by
       cases z:Y[i]? with
       | none=>rw[z] at b;cases b
       | some a=>rw[z] at b;rw[show a=some v from b]
      obtain⟨A,a⟩:=S.slot j i x r q;obtain⟨m,_,j⟩:=I.loc;have b:Vis X.env.scope x:=by
       rcases S.free _ (PySem.mem_of_lookup a) rfl with z | z
       ·exact .inr (.inl z)
       ·exact .inr (.inr z)
      obtain⟨u,r,l⟩:=j i x v A h b;refine{u,r,.inr {?_,?_}}
      ·show Env.kindOf (compEnvC scope 'v' s.heap.objs.size X.env) x=some .cell\/Env.kindOf (compEnvC scope 'v' s.heap.objs.size X.env) x=some .free
       rw[f x,a];show some (Fg X.env x .free)=_\/some (Fg X.env x .free)=_;unfold Fg;split
       ·exact .inl rfl
       ·exact .inr rfl
      ·obtain⟨c,f⟩:=g x a
       refine{c,f,?_};have b:=d x c f;rcases l with⟨k,_⟩ | ⟨_,g,f,z⟩
       ·have k':X.env.scope.names.lookup x=some .local:=k
        rcases S.free _ (PySem.mem_of_lookup a) rfl with z | z<;>(rw[show ((x,NameKind.free):Str×NameKind).1=x from rfl,k'] at z;cases z)
       ·rw[b] at f;cases f
        obtain⟨o,a,b⟩:=z;exact{o,n c o a,b}
 ·obtain⟨v,o,a,b⟩:=I.cell x c (d x c e)
  exact{v,o,n c o a,b}
 ·show (pick Y ixs).length=N'.length
  unfold pick;rw[Ag];exact S.len
def o3(I:Nat->Shared->Prop)(turn:∀n s,I n s->wpAny 'r' A (pyNext it) (λr d=>match r with
  | none=>R (.ok .next) d
  | some v=>wpAny 'r' A (letOwnedTupleGo target it v) (λ_ g=>wpAny 'r' A (assign target env v) (λ_ e=>
   wpAny 'r' A (forIn ifs true λc r=>if r=true then do let j <-isTrue c env (eval c env);pure (ForInStep.yield j) else pure (ForInStep.yield r)) (λj a=>
    if j=true then wpAny 'r' A (eval elt env) (λx f=>
     wpAny 'r' A (call (.builtin "list.append") [acc,x]) (λ_ i=>∃m,m<n/\I m i) (λ_ _=>False) f) (λ_ _=>False) a
    else ∃m,m<n/\I m a) (λ_ _=>False) e) (λ_ _=>False) g) (λ_ _=>False) d) (λ_ _=>False) s)(n:Nat)(h:I n s) :
 codeAny 'r' A (.compLoop (.ListComp elt [{target,iter,ifs,0}] scope pos) 0 it acc env) R s:=by
 refine codeAny_loop rfl I (λn s b=>?_) n h;show wpAny _ A ((compTurn (.ListComp elt [{target,iter,ifs,0}] scope pos) 0 it acc env).onRaise (λx=>do noteFrame x env;theTreesLotGoes x)) _ _ s;refine wpAny_noted ?_;rw[compTurn_list];refine Ac (wpAny_standAt (Ac (C4 (turn n s b) (λr d c=>?_) λ_ _ b=>b.elim)));cases r with
 | none=>exact An c
 | some v=>
   refine Ac (C4 c (λ_ g h=>Ac (C4 h (λ_ e d=>Ac (C4 d (λj a c=>?_) λ_ _ b=>b.elim)) λ_ _ b=>b.elim)) λ_ _ b=>b.elim);cases j with
   | false=>exact An ⟨rfl,c⟩
   | true=>
     exact Ac (Ac (C4 c (λx f d=>Ac (C4 d (λ_ i a=>An (An ⟨rfl,a⟩)) λ_ _ b=>b.elim)) λ_ _ b=>b.elim))
instance PTs(X:Cx)(ifs:List Expr)(t:TT):Prop:=
 ∀(A3:List 'p') (s:Shared) (Y:St) (H:Hp) (Q:Bool->Hp->Prop),Ab X A3 Y H s->t Y H Q->
  wpAny 'e' X.A (forIn ifs true λc r=>if r=true then do let ok <-isTrue c X.env (eval c X.env);pure (ForInStep.yield ok) else pure (ForInStep.yield r)) (TP X A3 Y Q) X.xe s
def KA:TT:=λ_ H Q=>Q true H
def o4:PTs X [] KA:=λ_ _ _ H _ I h=>wpAny_tests_nil ⟨H,I,h⟩
def o5(h:PT X c t):PTs X [c] t:=λa s Y H Q I q=>wpAny_tests_one (h a s Y H Q I q)
def HX(wi:TI)(ixs:List (Option Nat))(g:TG)(tc:TT)(te:TE):TE:=λY H Q=>wi Y H λJ H1=>∀D,H1 D=none->
 ∃W:Nat->Nat->St->Hp->Prop,(∃m,W 0 m (pick Y ixs) (Ad H1 D (.lst [])))/\∀i m Y' H',W i m Y' H'->
  (J.stop i H'/\Q (.ref D) H')\/(J.go i H'/\∃N:St->Hp->Prop,(∀Y2 H2,N Y2 H2->∃m',m' < m/\W (i+1) m' Y2 H2)/\∀x H2,J.yld i H' x H2->g x Y' H2 λY3 H3=>
   tc Y3 H3 λb H4=>if b=true then te Y3 H4 λy H5=>∃ys,H5 D=some (.lst ys)/\ys.length<sizeLine/\N Y3 (Ad H5 D (.lst (ys++[y]))) else N Y3 H4)
def jh{G:List 'p'}{Y:St}{H2:Hp}{a:Shared}{r:Addr}{h:List Addr}{B:Nat->Heap->Prop}{J:It}{E:Value->Shared->Prop}{RR:Value->Addr->Result->Shared->Prop}{Q:VK}(S:E2 X N' ixs scope)(Z:X.calm=true)(I2:Ab X G Y H2 a)(T:EY X.prog X.w X.K tg J h r B)(l:B 0 a.heap)(f2:∀b∈h,Da X G H2 b)(M:∀c C s H h,PG (BU X N' scope c C s H h) tg g/\PTs (BU X N' scope c C s H h) ifs tc/\PE (BU X N' scope c C s H h) elt te)(O:∀D,H2 D=none->∃W:Nat->Nat->St->Hp->Prop,(∃m,W 0 m (pick Y ixs) (Ad H2 D (.lst [])))/\∀i m A j,W i m A j->
  (J.stop i j/\Q (.ref D) j)\/(J.go i j/\∃N:St->Hp->Prop,(∀c H2,N c H2->∃m',m' < m/\W (i+1) m' c H2)/\∀x H2,J.yld i j x H2->g x A H2 λc H3=>
   tc c H3 λb d=>if b=true then te c d λy H5=>∃ys,H5 D=some (.lst ys)/\ys.length<sizeLine/\N c (Ad H5 D (.lst (ys++[y]))) else N c d))(hR:∀(D C:Addr) (j:Hp) (s':Shared) (m:Str->Option Value),s'.heap.Ns C m->C≠X.env.locals->j C=none->X.s₀.heap.objs.size<=C->(∀x c,X.env.cells.lookup x=some c->c≠C)->(∀p∈X.pn++G,p.1≠C)->C∉X.fs->Ab X G Y j s'->Q (.ref D) j->RR (.ref D) C (.ok .next) s') :
 wpAny 'e' X.A (newList []) (λg e=>wpAny 'e' X.A (newFunctionEnv scope X.env.globals 'v' [] X.env.qual none .none (some X.env)) (λd f=>
  codeAny 'e' X.A (.compStart (.ListComp elt [{tg,iter,ifs,0}] scope pos) 0 (.ref r) g { d with scope:=relabel scope X.env }) (RR g d.locals) f) E e) E a:=by
 have J:H2 a.heap.objs.size=none:=I2.hok.fresh (Am _);refine wpAny_newObj_type ?_;have I3:Ab X G Y (Ad H2 a.heap.objs.size (.lst [])) { a with heap:=a.heap.push { cls:=.type "list",dict:=none,data:=.seq ([]:List Value).toArray } }:=
  I2.lnew (ys:=[]) (its:=[]) (t':=a.toks) .nil (AE _)
 generalize g:({ a with heap:=a.heap.push { cls:=.type "list",dict:=none,data:=.seq ([]:List Value).toArray } }:Shared)=s3 at I3;have q:∀b o,a.heap.get? b=some o->s3.heap.get? b=some o:=λb o e=>by rw[<-g];exact AM _ e
 have n:s3.heap.objs.size=a.heap.objs.size+1:=by rw[<-g];exact DP _ _
 have I:wpAny 'e' X.A (newFunctionEnv scope X.env.globals 'v' [] X.env.qual none .none (some X.env)) (λd f=>
  codeAny 'e' X.A (.compStart (.ListComp elt [{tg,iter,ifs,0}] scope pos) 0 (.ref r) (.ref a.heap.objs.size) { d with scope:=relabel scope X.env }) (RR (.ref a.heap.objs.size) d.locals) f) E s3:=by
  refine wpAny_newFunctionEnv S.nocell (by intro y f;simp at f) (λn z d=>?_) S.kind;have s:∀b o,s3.heap.get? b=some o->n.get? b=some o:=λb o e=>d.extBut b o (Bk (Heap.lt_size e)) (AM _ e)
  have g:∀b∈h,∃o,a.heap.get? b=some o/\∀v,o.data≠.cell v:=T.obj 0 a.heap l;have u:∀b∈h,Da X G (Ad H2 a.heap.objs.size (.lst [])) b:=λb f=>by
   obtain⟨o,e,_⟩:=g b f;exact{by rw[af (Bk (Heap.lt_size e))];exact(f2 b f).1,(f2 b f).2}
  have I4:=I3.comp (h':=n) (t':=s3.toks+([]:List (Str×Value)).length) S u (λb f=>let ⟨o,e,d⟩:=g b f;{o,q b o e,d}) s z;have C:B 0 n:=T.keep 0 _ _ l λb _ o e=>s b o (q b o e)
  show codeAny 'e' X.A (.compStart (.ListComp elt [{tg,iter,ifs,0}] scope pos) 0 (.ref r) (.ref a.heap.objs.size) (compEnvC scope 'v' s3.heap.objs.size X.env)) (RR (.ref a.heap.objs.size) s3.heap.objs.size) { s3 with heap:=n,toks:=s3.toks+([]:List (Str×Value)).length };have l:B 0 ({ s3 with heap:=n,toks:=s3.toks+([]:List (Str×Value)).length }:Shared).heap:=C;generalize ({ s3 with heap:=n,toks:=s3.toks+([]:List (Str×Value)).length }:Shared)=s4 at I4 l ⊢;obtain⟨W,⟨E,C⟩,step⟩:=O a.heap.objs.size J;have n:∀b∈h,b<s3.heap.objs.size:=λb f=>by
   obtain⟨o,e,_⟩:=g b f;exact Heap.lt_size (q b o e)
  have g:∀{j:Hp},(∀b∈h,j b=none)->∀b∈h,Da (BU X N' scope 'v' s3.heap.objs.size s3 (Ad H2 a.heap.objs.size (.lst [])) h) [] j b:=λq b f=>
   {q b f,Bk (n b f),λz=>I4.ok.exfs b f z,.inl f,(I4.ok.exf b f).2,λp P=>absurd (show p∈([]:List 'p') from P) 'd'}
  have s:codeAny 'e' X.A (.compLoop (.ListComp elt [⟨tg,iter,ifs,0⟩] scope pos) 0 (.ref r) (.ref a.heap.objs.size) (compEnvC scope 'v' s3.heap.objs.size X.env)) (RR (.ref a.heap.objs.size) s3.heap.objs.size) s4:=by
   obtain⟨hg,ht,he⟩:=M 'v' s3.heap.objs.size s3 (Ad H2 a.heap.objs.size (.lst [])) h;refine o3 (λn s'=>∃i A j,Ab (BU X N' scope 'v' s3.heap.objs.size s3 (Ad H2 a.heap.objs.size (.lst [])) h) [] A j s'/\B i s'.heap/\(∀b∈h,j b=none)/\W i n A j) ?_ E {0,_,_,I4,l,λb f=>(u b f).1,C};rintro n R ⟨i,M,H5,I5,J,E,r⟩;rcases step i n M H5 r with⟨C,q⟩ | ⟨Y,N,hN,O⟩
   ·refine ai (T.done (BU X N' scope 'v' s3.heap.objs.size s3 (Ad H2 a.heap.objs.size (.lst [])) h) rfl rfl rfl Z i [] R M H5 (λ_ _=>False) I5 (g E) J C) λr U hI102=>?_
    obtain⟨C,I6⟩:=hI102;subst C;obtain⟨m,Q,_⟩:=I6.loc;refine hR _ _ H5 U m Q (Ne.symm (Bk I3.lt)) I6.free I3.sz (λx c e z=>?_) (λp P z=>?_) (I3.nofs (Am _)) (I3.call' (ch:=h) I6.os I6.base I6.hok I6.bare λb f=>{(u b f).2.2.2.1,(u b f).2.1,(u b f).2.2.2.2.1,(u b f).2.2.2.2.2}) q
    ·obtain⟨v,y⟩:=I3.cell x c e
     have:=y.lt;rw[z] at this;exact absurd this (Dj _)
    ·have:=Heap.lt_size (I3.pin p P).1
     rw[z] at this;exact absurd this (Dj _)
   ·refine ai (T.item (BU X N' scope 'v' s3.heap.objs.size s3 (Ad H2 a.heap.objs.size (.lst [])) h) rfl rfl rfl Z i [] R M H5 (λ_ _=>False) I5 (g E) J Y) λr U hI103=>?_
    obtain⟨u,C,c⟩:=hI103;subst C;refine ai c λ_ z hI104=>?_
    obtain⟨x,H7,I7,r,q,c,p⟩:=hI104;have I7':=I7.pinned (g p) (T.obj _ _ c);refine ai (hg _ z M H7 x u _ I7' r (O x H7 q)) λ_ p hI105=>?_
    obtain⟨q,g,I8,r⟩:=hI105;refine ai (ht _ p q g _ I8 r) λE x hI106=>?_
    obtain⟨C,I9,u⟩:=hI106;have again:∀{r:Shared} {g:St} {p:Hp},Ab (BU X N' scope 'v' s3.heap.objs.size s3 (Ad H2 a.heap.objs.size (.lst [])) h) ([]++GE h z.heap) g p r->N g p->
     ∃m,m<n/\∃i A j,Ab (BU X N' scope 'v' s3.heap.objs.size s3 (Ad H2 a.heap.objs.size (.lst [])) h) [] A j r/\B i r.heap/\(∀b∈h,j b=none)/\W i m A j:=λ{r g p} h m=>by
     obtain⟨m',Q,j⟩:=hN g p m;refine{m',Q,i+1,g,p,h.unpinned,T.keep _ _ _ c λb f o e=>(h.pin (b,o) (Ey _ (Ey _ (en f e)))).1,λb f=>?_,j};obtain⟨o,e,d⟩:=T.obj _ _ c b f;exact(h.pin (b,o) (Ey _ (Ey _ (en f e)))).2.1
    cases E with
    | false=>
      rw[if_neg 'z'] at u ⊢;exact again I9 u
    | true=>
      rw[if_pos rfl] at u ⊢;refine ai (he _ x q C _ I9 u) λv e hI107=>?_
      obtain⟨y,c,I10,b,ys,f,g,d⟩:=hI107;refine ai (oC _ e q c (.ref a.heap.objs.size) [y] (.ref a.heap.objs.size) [v] (λ_ H=>N q H) I10 rfl (.cons b .nil) {_,ys,y,rfl,rfl,f,g,d}) λ_ a hI108=>?_
      obtain⟨_,b,I11,_,a⟩:=hI108;exact again I11 a
  refine codeAny_compStart_list s (T.self _ 0 _ _ _ l s)
 exact I
def o6(S:E2 X N' ixs scope)(j:X.calm=true)(i:PI X tg iter wi)(b:∀c C s H a,PG (BU X N' scope c C s H a) tg g/\PTs (BU X N' scope c C s H a) ifs tc/\PE (BU X N' scope c C s H a) elt te)(c:∀x,foldedSetIterable iter X.env x=pure x:=by intro _;rfl) :
 PE X (.ListComp elt [⟨tg,iter,ifs,0⟩] scope pos) (HX wi ixs g tc te):=by
 intro d s Y H Q I h;rw[eval_ListComp];refine wpAny_comprehension_free (use:=none) rfl c (S.clos I) S.kind S.loc (ai (i d s Y H _ I h) λv g e=>ai e λc h f=>?_);obtain⟨g,a,e,J,H2,rfl,I2,T,c,f2,e⟩:=f;refine jh (RR:=λa C=>compPost 'e' X.A X.xe none (EP X d Y Q) a C) S j I2 T c f2 b e ?_;intro D C h s' m b j g c d a f e q;refine{m,b,λl f=>{.ref D,h,?_,rfl,q}};exact e.turned (t':=s'.toks) (λb o h e=>f.extBut b o h e) g j (.inr c) d a
open H in
def o7{i:Nat}{y:Str}(S:E2 X N' ixs scope)(m:X.calm=true)(l:X.N.Nodup)(p:X.N[i]?=some y)(j:X.env.scope.names.lookup y=some .local)(Cn:PI X tg iter wi)(d:∀b C s H a,PG (BU X N' scope b C s H a) tg g/\PTs (BU X N' scope b C s H a) ifs tc/\PE (BU X N' scope b C s H a) elt te)(c:swapsWith (.ListComp elt [{tg,iter,ifs,0}] scope pos) (some (.Name y py)) spos.line X.env=pure true)(e:∀x,foldedSetIterable iter X.env x=pure x:=by intro _;rfl) :
 PS X (.Assign [.Name y py] (.ListComp elt [⟨tg,iter,ifs,0⟩] scope pos) spos) (FB (HX wi ixs g tc te) (FA i)):=by
 intro b s Y H D I h;rw[exec_Assign_Name_used _ _ _ _ c];refine Ac (wpAny_standAt (Ac ?_));show wpAny _ X.A (do let _ <-comprehension (.ListComp elt [⟨tg,iter,ifs,0⟩] scope pos) scope X.env _ (newList []) false (eval iter X.env) (some (assign (.Name y py) X.env))) _ _ s;refine Ac (C4 (wpAny_comprehension_free (use:=some (assign (.Name y py) X.env)) (Q:=λ_ s'=>SP X b D .next s') rfl e (S.clos I) S.kind S.loc (ai (Cn b s Y H _ I h) λv f c=>ai c λe h g=>?_)) (λ_ s' c=>An (An c)) λ_ _ e=>e);obtain⟨c,a,f,J,H2,rfl,I2,T,c,f2,f⟩:=g;refine jh (Q:=λx H1=>FA i x Y H1 D.nx) (RR:=λa C=>compPost 'e' X.A X.xe (some (assign (.Name y py) X.env)) (λ_ s'=>SP X b D .next s') a C) S m I2 T c f2 d f ?_;intro a C o s' m n i r d c f g b q;show wpAny _ X.A (assign (.Name y py) X.env (.ref a)) _ _ _;refine wpAny_assign_Name (iw (v:=V.ref a) b l p (.inl j) rfl (λl I3 hI109=>?_) (.inr j));obtain⟨a,g,b⟩:=hI109;have h:C≠a:=by
  rcases b with rfl | b
  ·exact i
  ·exact λz=>c y a b z.symm
 refine{m,n.sameBut g h,λb a=>{_,o,?_,q}};exact I3.turned (t':=l.toks) (λb o g e=>a.extBut b o g e) r i (.inr d) c f
inductive D where
 | non | bl (b:Bool) | int (i:Int) | str (x:Str) | tup (l:List D) | lst (l:List D) | dct (ks vs:List D) | fl (l:List D) | fd (ks vs:List D)
def CT:Au->D
 | .inl i=>.int i
 | .inr x=>.str x
def FF:Ak->D
 | .inl i=>.int i
 | .inr x=>.str x
 | .t l=>.tup (l.map CT)
def AH(k:List Ak):D:=.tup (k.map FF)
mutual
noncomputable def Is(K:FG)(A:Addr->Prop)(H:Hp):D->V->Prop
 | .non,v=>v=.non
 | .bl b,v=>v=.bl b
 | .int i,v=>v=.int i
 | .str x,v=>v=.str x
 | .tup l,v=>∃a vs,v=.ref a/\H a=some (.tup vs)/\aa K A H l vs
 | .lst l,v=>∃a vs,v=.ref a/\A a/\H a=some (.lst vs)/\aa K A H l vs
 | .dct ks l,v=>∃a vs,v=.ref a/\A a/\aa K A H l vs/\
  ((∃kk:List Au,ks=kk.map CT/\kk.length=vs.length/\H a=some (.dK (kk.zip vs)))\/(∃kk:List (List Ak),ks=D.non::kk.map AH/\kk.length=vs.length/\H a=some (.dT (kk.zip vs))))
 | .fl l,v=>∃a o vs,v=.ref a/\H a=some (.frz o (.lst vs))/\aa K A H l vs
 | .fd ks l,v=>∃(a:Addr) (o:Obj) (vs:List V) (kk:List (List Ak)),v=.ref a/\ks=kk.map AH/\kk.length=vs.length/\H a=some (.frz o (.dT (kk.zip vs)))/\aa K A H l vs
noncomputable def aa(K:FG)(A:Addr->Prop)(H:Hp):List D->List V->Prop
 | [],vs=>vs=[]
 | d::l,vs=>∃v r,vs=v::r/\Is K A H d v/\aa K A H l r
end
def CU(o:HO):Prop:=(∃u,o=.tup u)\/∃ob u,o=.frz ob u
structure A9(A A':Addr->Prop)(H H':Hp):Prop where
 sty:∀b o,H b=some o->CU o->H' b=some o
 nod:∀b o,A b->H b=some o->A' b/\H' b=some o
section
variable{K:FG}{A A':Addr->Prop}{H H':Hp}
def A9.tup(k:A9 A A' H H')(b:Addr)(u:List V)(h:H b=some (.tup u)):H' b=some (.tup u):=k.sty b _ h (.inl {_,rfl})
def A9.frz(k:A9 A A' H H')(b:Addr)(o:Obj)(u:HO)(h:H b=some (.frz o u)):H' b=some (.frz o u):=k.sty b _ h (.inr {_,_,rfl})
mutual
theorem Is.mono(k:A9 A A' H H'):∀{d:D} {v:V},Is K A H d v->Is K A' H' d v
 | .non,_,h=>h
 | .bl _,_,h=>h
 | .int _,_,h=>h
 | .str _,_,h=>h
 | .tup l,v,h=>by
   obtain⟨a,b,e,q,i⟩:=h;exact{a,b,e,k.tup a b q,aa.mono k i}
 | .lst l,v,h=>by
   obtain⟨a,b,e,n,q,i⟩:=h;exact{a,b,e,(k.nod a _ n q).1,(k.nod a _ n q).2,aa.mono k i}
 | .dct g l,v,h=>by
   obtain⟨a,b,e,n,i,q⟩:=h;refine{a,b,e,?_,aa.mono k i,?_}
   ·rcases q with⟨_,_,_,q⟩ | ⟨_,_,_,q⟩<;>exact(k.nod a _ n q).1
   ·rcases q with⟨c,d,f,q⟩ | ⟨c,d,f,q⟩
    ·exact .inl {c,d,f,(k.nod a _ n q).2}
    ·exact .inr {c,d,f,(k.nod a _ n q).2}
 | .fl l,v,h=>by
   obtain⟨a,o,b,e,q,i⟩:=h;exact{a,o,b,e,k.frz a o _ q,aa.mono k i}
 | .fd g l,v,h=>by
   obtain⟨a,o,b,c,e,d,f,q,i⟩:=h;exact{a,o,b,c,e,d,f,k.frz a o _ q,aa.mono k i}
theorem aa.mono(k:A9 A A' H H'):∀{l:List D} {a:List V},aa K A H l a->aa K A' H' l a
 | [],_,h=>h
 | d::l,a,h=>by
   unfold aa at h ⊢;obtain⟨v,r,e,i,j⟩:=h;exact{v,r,e,Is.mono k i,aa.mono k j}
end
def aa.nil:aa K A H [] a↔a=[]:=by unfold aa;rfl
def aa.cons{d:D}{l:List D}{a:List V}:aa K A H (d::l) a↔∃v r,a=v::r/\Is K A H d v/\aa K A H l r:=by conv=>lhs;unfold aa
theorem aa.length:∀{l:List D} {a:List V},aa K A H l a->l.length=a.length
 | [],a,h=>by rw[aa.nil.mp h];rfl
 | d::l,a,h=>by
   obtain⟨v,r,e,_,j⟩:=aa.cons.mp h;rw[e,B4,B4,aa.length j]
theorem aa.get:∀{l:List D} {a:List V} {i:Nat} {d:D},aa K A H l a->l[i]?=some d->∃v,a[i]?=some v/\Is K A H d v
 | [],_,_,_,_,e=>by simp at e
 | x::l,a,0,d,h,e=>by
   obtain⟨v,r,e',i,_⟩:=aa.cons.mp h;simp at e;subst e e';exact⟨v,rfl,i⟩
 | x::l,a,i+1,d,h,e=>by
   obtain⟨v,r,e',_,j⟩:=aa.cons.mp h;subst e';simpa using aa.get (i:=i) j (by simpa using e)
theorem aa.append:∀{l m:List D} {a us:List V},aa K A H l a->aa K A H m us->aa K A H (l++m) (a++us)
 | [],m,a,us,h,g=>by rw[aa.nil.mp h];exact g
 | d::l,m,a,us,h,g=>by
   obtain⟨v,r,e,i,j⟩:=aa.cons.mp h;subst e;exact aa.cons.mpr {v,r++us,rfl,i,aa.append j g}
def aa.one(h:Is K A H d v):aa K A H [d] [v]:=aa.cons.mpr {v,[],rfl,h,aa.nil.mpr rfl}
theorem aa.take:∀{l:List D} {a:List V} (n:Nat),aa K A H l a->aa K A H (l.take n) (a.take n)
 | _,_,0,_=>by simp only[List.take_zero];exact aa.nil.mpr rfl
 | [],a,n+1,h=>by rw[aa.nil.mp h];simp only[List.take_nil];exact aa.nil.mpr rfl
 | d::l,a,n+1,h=>by
   obtain⟨v,r,e,i,j⟩:=aa.cons.mp h;subst e;exact aa.cons.mpr {v,r.take n,rfl,i,aa.take n j}
theorem aa.drop:∀{l:List D} {a:List V} (n:Nat),aa K A H l a->aa K A H (l.drop n) (a.drop n)
 | _,_,0,h=>by simpa only[F1] using h
 | [],a,n+1,h=>by rw[aa.nil.mp h];simp only[List.drop_nil];exact aa.nil.mpr rfl
 | d::l,a,n+1,h=>by
   obtain⟨v,r,e,i,j⟩:=aa.cons.mp h;subst e;exact aa.drop n j
theorem aa.set:∀{l:List D} {a:List V} (n:Nat) {d:D} {v:V},aa K A H l a->Is K A H d v->aa K A H (l.set n d) (a.set n v)
 | [],a,n,d,v,h,_=>by rw[aa.nil.mp h];simp only[List.set_nil];exact aa.nil.mpr rfl
 | x::l,a,0,d,v,h,g=>by
   obtain⟨w,r,e,i,j⟩:=aa.cons.mp h;subst e;exact aa.cons.mpr ⟨v,r,rfl,g,j⟩
 | x::l,a,n+1,d,v,h,g=>by
   obtain⟨w,r,e,i,j⟩:=aa.cons.mp h;subst e;exact aa.cons.mpr {w,r.set n v,rfl,i,aa.set n j g}
end
mutual
noncomputable def D.imm:D->Bool
 | .tup l=>D.immL l
 | .lst _=>false
 | .dct _ _=>false
 | .fd _ _=>false
 | .fl l=>D.immL l
 | _=>true
noncomputable def D.immL:List D->Bool
 | []=>true
 | d::l=>D.imm d&&D.immL l
end
section
variable{K:FG}{A A':Addr->Prop}{H:Hp}
mutual
theorem Is.ofImm:∀{d:D} {v:V},d.imm=true->Is K A H d v->Is K A' H d v
 | .non,_,_,h=>h
 | .bl _,_,_,h=>h
 | .int _,_,_,h=>h
 | .str _,_,_,h=>h
 | .tup l,v,m,h=>by
   obtain⟨a,b,e,q,i⟩:=h;exact{a,b,e,q,aa.ofImm m i}
 | .lst l,v,m,_=>absurd m BA
 | .dct _ l,v,m,_=>absurd m BA
 | .fd _ l,v,m,_=>absurd m BA
 | .fl l,v,m,h=>by
   obtain⟨a,o,b,e,q,i⟩:=h;exact{a,o,b,e,q,aa.ofImm m i}
theorem aa.ofImm:∀{l:List D} {a:List V},D.immL l=true->aa K A H l a->aa K A' H l a
 | [],_,_,h=>h
 | d::l,a,m,h=>by
   have m':d.imm=true/\D.immL l=true:=GB.mp m;unfold aa at h ⊢;obtain⟨v,r,e,i,j⟩:=h;exact{v,r,e,Is.ofImm m'.1 i,aa.ofImm m'.2 j}
end
def Is.tup{a:Addr}{b:List V}{l:List D}(h:H a=some (.tup b))(i:aa K A H l b):Is K A H (.tup l) (.ref a):=by
 exact⟨a,b,rfl,h,i⟩
def Is.lst{a:Addr}{b:List V}{l:List D}(n:A a)(h:H a=some (.lst b))(i:aa K A H l b):Is K A H (.lst l) (.ref a):=by
 exact⟨a,b,rfl,n,h,i⟩
def Is.int_iff{i:Int}:Is K A H (.int i) v↔v=.int i:=Iff.rfl
def Is.bl_iff{i:Bool}:Is K A H (.bl i) v↔v=.bl i:=Iff.rfl
def Is.str_iff{i:Str}:Is K A H (.str i) v↔v=.str i:=Iff.rfl
def Is.non_iff:Is K A H .non v↔v=.non:=Iff.rfl
def Is.tup_iff:Is K A H (.tup l) v↔∃a b,v=.ref a/\H a=some (.tup b)/\aa K A H l b:=Iff.rfl
def Is.tup_sq(h:Is K A H (.tup l) v):∃a b,v=.ref a/\AN K H a b/\aa K A H l b:=let ⟨a,b,e,s,i⟩:=Is.tup_iff.mp h;{a,b,e,.of s,i}
def Is.lst_iff:Is K A H (.lst l) v↔∃a b,v=.ref a/\A a/\H a=some (.lst b)/\aa K A H l b:=Iff.rfl
def Is.fl_iff:Is K A H (.fl l) v↔∃a o b,v=.ref a/\H a=some (.frz o (.lst b))/\aa K A H l b:=Iff.rfl
def Is.fd_iff:Is K A H (.fd d l) v↔∃(a:Addr) (o:Obj) (c:List V) (b:List (List Ak)),v=.ref a/\d=b.map AH/\b.length=c.length/\H a=some (.frz o (.dT (b.zip c)))/\aa K A H l c:=Iff.rfl
def Is.dct_iff:Is K A H (.dct d l) v↔∃a c,v=.ref a/\A a/\aa K A H l c/\
 ((∃b:List Au,d=b.map CT/\b.length=c.length/\H a=some (.dK (b.zip c)))\/(∃b:List (List Ak),d=D.non::b.map AH/\b.length=c.length/\H a=some (.dT (b.zip c)))):=Iff.rfl
instance D.asL:D->Option (List D)
 | .lst l=>some l
 | .fl l=>some l
 | _=>none
theorem Is.asL(h:Is K A H d v)(e:d.asL=some l):∃a b,v=.ref a/\Rd H a (.lst b)/\aa K A H l b/\∀(i:Addr->Prop) (f:Hp),A9 A i H f->Rd f a (.lst b):=by
 cases d with
 | lst m=>
   cases e;obtain⟨a,b,g,n,c,d⟩:=Is.lst_iff.mp h;exact{a,b,g,.inl c,d,λi f k=>.inl (k.nod a _ n c).2}
 | fl m=>
   cases e;obtain⟨a,o,b,g,c,d⟩:=Is.fl_iff.mp h;exact{a,b,g,.inr ⟨o,c⟩,d,λi f k=>.inr {o,k.sty a _ c (.inr {_,_,rfl})}}
 | _=>cases e
end
structure AG where
 cls:Str
 args:List D
inductive Ap(S α:Type) where
 | ok (a:α) (st:S) | exc (x:AG) (st:S) | bad
variable{S α β γ:Type}
instance Ap.bind(r:Ap S α)(k:α->S->Ap S β):Ap S β:=match r with
 | .ok a st=>k a st
 | .exc x st=>.exc x st
 | .bad=>.bad
def Aa(r:Ap S α)(Q:α->S->Prop)(E:AG->S->Prop):Prop:=match r with
 | .ok a st=>Q a st
 | .exc x st=>E x st
 | .bad=>False
def ae:Aa (r.bind k) Q E↔Aa r (λa b=>Aa (k a b) Q E) E:=by
 cases r<;>rfl
def aj{r:Ap S α}{Q d:α->S->Prop}{E c:AG->S->Prop}(h:Aa r Q E)(f:∀a b,Q a b->d a b)(e:∀x b,E x b->c x b):Aa r d c:=by
 cases r with
 | ok a b=>exact f a b h
 | exc x b=>exact e x b h
 | bad=>exact h.elim
def Aw(o:Option α)(st:S):Ap S α:=match o with
 | some a=>.ok a st
 | none=>.bad
def ar{o:Option α}{c:S}{Q:α->S->Prop}{E:AG->S->Prop}:Aa (Aw o c) Q E↔∃a,o=some a/\Q a c:=by
 cases o with
 | none=>constructor
         ·intro h;exact h.elim
         ·rintro ⟨a,e,_⟩;cases e
 | some a=>constructor
           ·intro h;exact⟨a,rfl,h⟩
           ·rintro ⟨b,e,q⟩;cases e;exact q
@[simp] theorem Ap.bind_ok (a:α) (st:S) (k:α->S->Ap S β):(Ap.ok a st).bind k=k a st:=rfl
structure Wd(S:Type) where
 ok:S->Hp->Prop
 mv:Addr->Prop
 h:V
 stay:∀st H H',ok st H->(∀b o,mv b->H b=some o->H' b=some o)->(∀b o,H b=some o->CU o->H' b=some o)->ok st H'
 live:∀st H b,ok st H->mv b->∃o,H b=some o/\(∀u,o≠.tup u)/\∀ob u,o≠.frz ob u
instance W0:Wd Unit:={λ_ _=>True,λ_=>False,.non,λ_ _ _ h _ _=>h,λ_ _ _ _ h=>h.elim}
inductive Sl where
 | no | bor (d:D) | own (d:D) | hnd
abbrev Ae:=List Sl
structure Dx{S:Type}(W:Wd S) where
 K:FG
 H0:Hp
 Ex:AG->S->Hp->Prop
 /-- addresses that no tree holds (a comprehension's list while it grows) -/
 av:Addr->Prop
def Af{S:Type}(W:Wd S)(H H':Hp):Prop:=∀b o,H b=some o->¬W.mv b->H' b=some o
def Af.refl{S:Type}{W:Wd S}{H:Hp}:Af W H H:=λ_ _ h _=>h
def Af.trans{S:Type}{W:Wd S}{H H1 H2:Hp}(a:Af W H H1)(b:Af W H1 H2):Af W H H2:=λc o h n=>b c o (a c o h n) n
def Af.laid{S:Type}{W:Wd S}{H:Hp}{p:Addr}{o:HO}(h:H p=none):Af W H (Ad H p o):=λb u e _=>by rw[af (au e h)];exact e
def BH.ext{S:Type}{W:Wd S}{H a:Hp}(h:BH H a):Af W H a:=λb o e _=>h b o e
instance Ow(Y:St)(Z:Ae)(b:Addr):Prop:=∃(i:Nat) (d:D),Z[i]?=some (Sl.own d)/\Y[i]?=some (some (V.ref b))
instance Av{S:Type}{W:Wd S}(c:Dx W)(Y:St)(Z:Ae)(b:Addr):Prop:=¬W.mv b/\¬Ow Y Z b/\¬c.av b
instance Top(K:FG)(A:Addr->Prop)(H:Hp)(d:D)(a:Addr):Prop:=match d with
 | .lst l=>∃vs,H a=some (.lst vs)/\aa K A H l vs
 | .dct ks l=>∃vs,aa K A H l vs/\((∃kk:List Au,ks=kk.map CT/\kk.length=vs.length/\H a=some (.dK (kk.zip vs)))\/(∃kk:List (List Ak),ks=D.non::kk.map AH/\kk.length=vs.length/\H a=some (.dT (kk.zip vs))))
 | _=>False
def Jx{S:Type}{W:Wd S}(c:Dx W)(H:Hp)(A:Addr->Prop)(ov:Option V):Sl->Prop
 | .no=>True
 | .bor d=>∃v,ov=some v/\Is c.K A H d v
 | .own d=>∃a,ov=some (.ref a)/\(¬W.mv a/\¬c.av a)/\c.H0 a=none/\Top c.K A H d a
 | .hnd=>ov=some W.h
structure As{S:Type}{W:Wd S}(c:Dx W)(H:Hp)(Y:St)(Z:Ae):Prop where
 len:Y.length=Z.length
 frame:∀b o,c.H0 b=some o->¬W.mv b->H b=some o
 slot:∀(i:Nat) (s:Sl),Z[i]?=some s->Jx c H (Av c Y Z) (Y[i]?).join s
 avl:∀b,c.av b->¬W.mv b/\c.H0 b=none/\∃o,H b=some o/\(∀u,o≠.tup u)/\∀ob u,o≠.frz ob u
 uniq:∀(i j:Nat) (a:Addr) (d e:D),Z[i]?=some (.own d)->Z[j]?=some (.own e)->Y[i]?=some (some (.ref a))->Y[j]?=some (some (.ref a))->i=j
section
variable{S:Type}{W:Wd S}{c:Dx W}{H H':Hp}{Y:St}{Z:Ae}{A A':Addr->Prop}
theorem Top.isTop(n:A a)(h:Top c.K A H d a):Is c.K A H d (.ref a):=by
 cases d with
 | lst l=>obtain⟨b,e,i⟩:=h;exact Is.lst n e i
 | dct d l=>obtain⟨b,i,q⟩:=h;exact Is.dct_iff.mpr ⟨a,b,rfl,n,i,q⟩
 | _=>exact h.elim
theorem Top.there(h:Top c.K A H d a):∃o,H a=some o/\(∀u,o≠.tup u)/\∀a u,o≠.frz a u:=by
 cases d with
 | lst l=>obtain⟨b,e,i⟩:=h;exact{_,e,(λu z=>by cases z),(λa u z=>by cases z)}
 | dct d l=>
   obtain⟨b,i,⟨_,_,_,q⟩ | ⟨_,_,_,q⟩⟩:=h
   ·exact{_,q,(λu z=>by cases z),(λa u z=>by cases z)}
   ·exact{_,q,(λu z=>by cases z),(λa u z=>by cases z)}
 | _=>exact h.elim
theorem Top.mono(k:A9 A A' H H')(e:∀o,H a=some o->H' a=some o)(h:Top c.K A H d a):Top c.K A' H' d a:=by
 cases d with
 | lst l=>obtain⟨a,q,i⟩:=h;exact{a,e _ q,i.mono k}
 | dct b l=>
   obtain⟨a,i,⟨f,b,d,q⟩ | ⟨f,b,d,q⟩⟩:=h
   ·exact{a,i.mono k,.inl {f,b,d,e _ q}}
   ·exact{a,i.mono k,.inr {f,b,d,e _ q}}
 | _=>exact h.elim
def As.owOk(R:As c H Y Z)(h:Ow Y Z b):¬W.mv b/\c.H0 b=none/\∃o,H b=some o/\(∀u,o≠.tup u)/\∀a u,o≠.frz a u:=by
 obtain⟨i,d,g,j⟩:=h;obtain⟨a,e,n,f,t⟩:=R.slot i _ g;rw[j] at e;have e:some (V.ref b)=some (V.ref a):=e;cases e;exact⟨n.1,f,t.there⟩
def bw(a:∀b o,H b=some o->(∃u,o=.tup u)\/(∃d u,o=.frz d u)->H' b=some o)(d:∀b o,A b->H b=some o->A' b/\H' b=some o):A9 A A' H H':=
 ⟨a,d⟩
def Af.keepT{f:S}(e:Af W H H')(g:W.ok f H)(d:∀b,A b->¬W.mv b/\A' b):A9 A A' H H':=
 bw (λb o h t=>e b o h λm=>by
  obtain⟨o',a,i,j⟩:=W.live f H b g m;rw[h] at a;cases a;rcases t with⟨u,z⟩ | ⟨g,u,z⟩
  ·exact i u z
  ·exact j g u z) λb o a h=>{(d b a).2,e b o h (d b a).1}
def As.ext{g:S}(R:As c H Y Z)(d:W.ok g H)(e:Af W H H'):As c H' Y Z where
 len:=R.len
 frame:=λb o h n=>e b o (R.frame b o h n) n
 avl:=λb h=>let ⟨n,z,o,a,q⟩:=R.avl b h;{n,z,o,e b o a n,q}
 uniq:=R.uniq
 slot:=λi s h=>by
  have k:A9 (Av c Y Z) (Av c Y Z) H H':=e.keepT d λb a=>⟨a.1,a⟩
  have q:=R.slot i s h;cases s with
  | no=>trivial
  | bor d=>obtain⟨v,b,f⟩:=q;exact{v,b,f.mono k}
  | own d=>obtain⟨a,b,n,f,t⟩:=q;exact{a,b,n,f,t.mono k λo z=>e a o z n.1}
  | hnd=>exact q
end
instance D.mut:D->Bool
 | .lst _=>true
 | .dct _ _=>true
 | _=>false
inductive Gr where
 | R | B | F
def BE{S:Type}{W:Wd S}(c:Dx W)(g:Gr)(Y:St)(Z:Ae)(H H':Hp)(d:D)(v:V):Prop:=match g with
 | .R=>Is c.K 'w' H' d v
 | .B=>Is c.K (Av c Y Z) H' d v
 | .F=>Is c.K (Av c Y Z) H' d v/\∀a,v=.ref a->d.mut=true->H a=none
section
variable{S:Type}{W:Wd S}{c:Dx W}{H H1 H':Hp}{Y:St}{Z:Ae}{d:D}{v:V}{g:Gr}
theorem BE.toR(h:BE c g Y Z H H' d v):BE c .R Y Z H H' d v:=by
 have k:A9 (Av c Y Z) 'w' H' H':={λ_ _ z _=>z,λb o a z=>⟨a.1,z⟩};cases g with
 | R=>exact h
 | B=>exact Is.mono k h
 | F=>exact Is.mono k h.1
def BE.toB(h:BE c .F Y Z H H' d v):BE c .B Y Z H H' d v:=h.1
theorem BE.imm(m:d.imm=true)(h:BE c .R Y Z H H' d v)(g:Gr):BE c g Y Z H H' d v:=by
 cases g with
 | R=>exact h
 | B=>exact Is.ofImm m h
 | F=>refine{Is.ofImm m h,λa e z=>?_}
      cases d<;>simp[D.mut,D.imm] at z m
end
abbrev Fn(S:Type):=Ae->S->Ap S D
instance tD{S:Type}{W:Wd S}(c:Dx W)(g:Gr)(f:Fn S):TE:=λY H Q=>∃Z st,As c H Y Z/\W.ok st H/\
 Aa (f Z st) (λd st'=>∀v H',Af W H H'->W.ok st' H'->BE c g Y Z H H' d v->Q v H') λx st'=>∀H',Af W H H'->W.ok st' H'->c.Ex x st' H'
instance DE(X:Cx){S:Type}{W:Wd S}(c:Dx W)(g:Gr)(e:Expr)(f:Fn S):Prop:=PE X e (tD c g f)
def PE.imp{X:Cx}{e:Expr}{t a:TE}(h:PE X e t)(i:∀Y H Q,a Y H Q->t Y H Q):PE X e a:=λb s Y H Q I q=>h b s Y H Q I (i Y H Q q)
def PT.imp{X:Cx}{e:Expr}{t a:TT}(h:PT X e t)(i:∀Y H Q,a Y H Q->t Y H Q):PT X e a:=λb s Y H Q I q=>h b s Y H Q I (i Y H Q q)
def PS.imp{X:Cx}{e:Stmt}{t a:TS}(h:PS X e t)(i:∀D Y H,a D Y H->t D Y H):PS X e a:=λb s Y H D I q=>h b s Y H D I (i D Y H q)
def CA.imp{X:Cx}{e:List Stmt}{t a:TS}(h:CA X e t)(i:∀D Y H,a D Y H->t D Y H):CA X e a:=λb s Y H D I q=>h b s Y H D I (i D Y H q)
section
variable{S:Type}
end
end L2
namespace L2
instance Go{S:Type}{W:Wd S}(c:Dx W)(g:Gr)(Y:St)(f:Fn S)(H:Hp)(Q:VK)(Z:Ae)(st:S):Prop:=
 Aa (f Z st) (λd st'=>∀v H',Af W H H'->W.ok st' H'->BE c g Y Z H H' d v->Q v H') λx st'=>∀H',Af W H H'->W.ok st' H'->c.Ex x st' H'
section
variable{S:Type}{W:Wd S}{c:Dx W}{H H1 H':Hp}{Y:St}{Z:Ae}{d:D}{v:V}{g g':Gr}{st st1:S}
theorem Af.none(e:Af W H H1)(f:W.ok st H1){a:Addr}(h:H1 a=none):H a=none:=by
 cases q:H a with
 | none=>rfl
 | some o=>
   have n:¬W.mv a:=λm=>by obtain⟨o',b,_⟩:=W.live st H1 a f m;rw[h] at b;cases b
   rw[e a o q n] at h;cases h
theorem BE.back(e:Af W H H1)(f:W.ok st H1)(h:BE c g Y Z H1 H' d v):BE c g Y Z H H' d v:=by
 cases g with
 | R=>exact h
 | B=>exact h
 | F=>exact{h.1,λa b m=>e.none f (h.2 a b m)}
def BE.ext(e:Af W H' H1)(a:W.ok st H')(h:BE c .R Y Z H H' d v):BE c .R Y Z H H1 d v:=Is.mono (e.keepT a λb n=>⟨n,n⟩) h
def Is.ext{A:Addr->Prop}(e:Af W H' H1)(f:W.ok st H')(a:∀b,A b->¬W.mv b)(h:Is c.K A H' d v):Is c.K A H1 d v:=Is.mono (e.keepT f λb n=>{a b n,n}) h
def aa.ext{A:Addr->Prop}{l:List D}{a:List V}(e:Af W H' H1)(i:W.ok st H')(f:∀b,A b->¬W.mv b)(h:aa c.K A H' l a):aa c.K A H1 l a:=aa.mono (e.keepT i λb n=>{f b n,n}) h
def Go.from{f:Fn S}{Q:VK}(e:Af W H H1)(i:W.ok st1 H1)(h:Go c g Y f H Q Z st):Go c g Y f H1 Q Z st:=
 aj h (λd f q v H' a b z=>q v H' (e.trans a) b (z.back e i)) λx f q H' a b=>q H' (e.trans a) b
def Go.bind{f:Fn S}{k:D->Fn S}{Q:VK}(R:As c H Y Z)(a:W.ok st H)(h:Go c g Y (λZ st=>(f Z st).bind λd st1=>k d Z st1) H Q Z st) :
 tD c g' f Y H λv H1=>∃d st1,As c H1 Y Z/\W.ok st1 H1/\Af W H H1/\BE c g' Y Z H H1 d v/\Go c g Y (k d) H1 Q Z st1:=by
 refine{Z,st,R,a,?_};have b:=ae.mp h;refine aj b (λd st1 q v H1 e f z=>?_) λx st1 q=>q
 exact{d,st1,R.ext a e,f,e,z,aj q (λd' h q v' H' a b y=>q v' H' (e.trans a) b (y.back e f)) λx h q H' a b=>q H' (e.trans a) b}
def Go.done(h:Go c g Y (λ_ st=>Aw o st) H Q Z st)(a:W.ok st H):∃d,o=some d/\∀v H',Af W H H'->W.ok st H'->BE c g Y Z H H' d v->Q v H':=by
 obtain⟨d,e,q⟩:=ar.mp h;exact⟨d,e,q⟩
def AB{S:Type}{W:Wd S}(c:Dx W)(H H':Hp)(d:D)(v:V):Prop:=Is c.K (λb=>¬W.mv b/\H b=none) H' d v
theorem AB.valF(R:As c H Y Z)(h:AB c H H' d v):BE c .F Y Z H H' d v:=by
 have k:A9 (λb=>¬W.mv b/\H b=Option.none) (Av c Y Z) H' H':={λ_ _ z _=>z,λb o a z=>{{a.1,(λw=>by
  obtain⟨_,_,o',e,_⟩:=R.owOk w;rw[a.2] at e;cases e),λw=>by
  obtain⟨_,_,o',e,_⟩:=R.avl b w;rw[a.2] at e;cases e},z}}
 refine{Is.mono k h,λa e m=>?_};subst e;cases d with
 | lst l=>obtain⟨b,a,e,n,_⟩:=Is.lst_iff.mp h;cases e;exact n.2
 | dct f l=>obtain⟨b,a,e,n,_⟩:=Is.dct_iff.mp h;cases e;exact n.2
 | _=>simp[D.mut] at m
theorem AB.val(R:As c H Y Z)(h:AB c H H' d v)(g:Gr):BE c g Y Z H H' d v:=by
 cases g with
 | R=>exact(h.valF R).toR
 | B=>exact(h.valF R).toB
 | F=>exact h.valF R
def AB.imm(m:d.imm=true)(h:Is c.K A H' d v):AB c H H' d v:=Is.ofImm m h
def aJ(a:W.ok st H)(h:H p=none):W.ok st (Ad H p o):=W.stay st H _ a (λb u _ e=>by rw[af (au e h)];exact e) λb u e _=>by rw[af (au e h)];exact e
def bx{p:Addr}(b:W.ok st H)(h:H p=none):¬W.mv p:=λm=>by
 obtain⟨o',a,_⟩:=W.live st H p b m;rw[h] at a;cases a
def AB.tup{p:Addr}{l:List D}{a:List V}{A:Addr->Prop}(f:W.ok st H)(h:H p=none)(e:∀b,A b->¬W.mv b)(m:D.immL l=true)(i:aa c.K A H l a):AB c H (Ad H p (.tup a)) (.tup l) (.ref p):=
 Is.tup aq (aa.ofImm m (i.ext (Af.laid h) f e))
def AB.lst{p:Addr}{l:List D}{a:List V}{A:Addr->Prop}(e:W.ok st H)(h:H p=none)(f:∀b,A b->¬W.mv b)(m:D.immL l=true)(i:aa c.K A H l a):AB c H (Ad H p (.lst a)) (.lst l) (.ref p):=
 Is.lst {bx e h,h} aq (aa.ofImm m (i.ext (Af.laid h) e f))
end
section
variable{X:Cx}{S:Type}{W:Wd S}{c:Dx W}{g:Gr}
instance fC(S:Type)(d:D):Fn S:=λ_ st=>.ok d st
def o8{i j pos}:DE X c g (.Constant (.int i) j pos) (fC S (.int i)):=aO.imp λY H Q ⟨Z,b,R,a,w⟩=>w _ _ Af.refl a (AB.val R (show AB c H H (.int _) (.int _) from Is.int_iff.mpr rfl) g)
def o9{i j pos}:DE X c g (.Constant (.bool i) j pos) (fC S (.bl i)):=m8.imp λY H Q ⟨Z,b,R,a,w⟩=>w _ _ Af.refl a (AB.val R (show AB c H H (.bl _) (.bl _) from Is.bl_iff.mpr rfl) g)
def pa{j pos}:DE X c g (.Constant .none j pos) (fC S .non):=m9.imp λY H Q ⟨Z,b,R,a,w⟩=>w _ _ Af.refl a (AB.val R (show AB c H H .non .non from Is.non_iff.mpr rfl) g)
def pb{x j pos}:DE X c g (.Constant (.str x) j pos) (fC S (.str x)):=bH.imp λY H Q ⟨Z,b,R,a,w⟩=>w _ _ Af.refl a (AB.val R (show AB c H H (.str _) (.str _) from Is.str_iff.mpr rfl) g)
instance rd(Z:Ae)(i:Nat):Option D:=match Z[i]? with
 | some (.bor d)=>some d
 | some (.own d)=>some d
 | _=>none
instance kp(Z:Ae)(i:Nat):Option D:=match Z[i]? with
 | some (.bor d)=>some d
 | _=>none
instance im(o:Option D):Option D:=o.bind λd=>if d.imm=true then some d else none
instance fV(S:Type)(i:Nat):Fn S:=λZ st=>Aw (rd Z i) st
instance fVk(S:Type)(i:Nat):Fn S:=λZ st=>Aw (kp Z i) st
theorem As.rd{H:Hp}{Y:St}{Z:Ae}{i:Nat}{d:D}(R:As c H Y Z)(h:L2.rd Z i=some d):∃v,Y[i]?=some (some v)/\Is c.K 'w' H d v:=by
 unfold L2.rd at h;have j:∀{o:Option (Option V)} {v:V},o.join=some v->o=some (some v):=λ{o v} e=>by cases o with
  | none=>cases e
  | some a=>rw[show a=some v from e]
 cases q:Z[i]? with
 | none=>rw[q] at h;cases h
 | some s=>
   rw[q] at h;have z:=R.slot i s q;cases s with
   | no=>cases h
   | hnd=>cases h
   | bor e=>
     cases h;obtain⟨v,d,b⟩:=z;exact{v,j d,b.mono {λ_ _ z _=>z,λb o a z=>⟨a.1,z⟩}}
   | own e=>
     cases h;obtain⟨a,d,n,f,t⟩:=z;exact{_,j d,(t.mono (A':=λb=>¬W.mv b) {λ_ _ z _=>z,λb o a z=>⟨a.1,z⟩} λo z=>z).isTop n.1}
theorem As.kp{H:Hp}{Y:St}{Z:Ae}{i:Nat}{d:D}(R:As c H Y Z)(h:L2.kp Z i=some d):∃v,Y[i]?=some (some v)/\Is c.K (Av c Y Z) H d v:=by
 unfold L2.kp at h;cases q:Z[i]? with
 | none=>rw[q] at h;cases h
 | some s=>
   rw[q] at h;have z:=R.slot i s q;cases s with
   | no=>cases h
   | hnd=>cases h
   | own e=>cases h
   | bor e=>
     cases h;obtain⟨v,b,a⟩:=z;refine{v,?_,a};cases w:Y[i]? with
     | none=>rw[w] at b;cases b
     | some a=>rw[w] at b;rw[show a=some v from b]
def pd{i:Nat}{x:Str}{pos:Pos}(h:PE X (.Name x pos) (Bx i)):DE X c .R (.Name x pos) (fV S i):=h.imp λY H Q hI3=>by
 obtain⟨Z,b,R,a,w⟩:=hI3;obtain⟨d,e,q⟩:=ar.mp w;obtain⟨v,d,b⟩:=R.rd e;exact{v,d,q v H Af.refl a b}
def vg{i:Nat}{x:Str}{pos:Pos}(h:PE X (.Name x pos) (Bx i)):DE X c .B (.Name x pos) (fVk S i):=h.imp λY H Q hI4=>by
 obtain⟨Z,b,R,a,w⟩:=hI4;obtain⟨d,e,q⟩:=ar.mp w;obtain⟨v,d,b⟩:=R.kp e;exact{v,d,q v H Af.refl a b}
instance fI(S:Type)(f:Fn S):Fn S:=λZ st=>(f Z st).bind λd st1=>if d.imm=true then .ok d st1 else .bad
def Bu{S:Type}{W:Wd S}(c:Dx W)(r:R2)(o:D->D->Option D):Prop:=∀d1 d2 v1 v2 H (st:S) d Q,W.ok st H->Is c.K 'w' H d1 v1->Is c.K 'w' H d2 v2->o d1 d2=some d->
 (∀v H',Af W H H'->W.ok st H'->AB c H H' d v->Q v H')->r v1 v2 H Q
instance f2(S:Type)(o:D->D->Option D)(f1 f2:Fn S):Fn S:=λZ st=>(f1 Z st).bind λd1 st1=>(f2 Z st1).bind λd2 st2=>Aw (o d1 d2) st2
def aQ(h:tD c g f Y H Q)(i:∀v e,Q v e->Q' v e):tD c g f Y H Q':=by
 obtain⟨Z,a,R,b,w⟩:=h;exact{Z,a,R,b,aj w (λd f q v e a b z=>i v e (q v e a b z)) λx f q=>q}
def dj(s:Bu c r o)(h:tD c g (f2 S o fa fb) Y H Q):tOp r (tD c ga fa) (tD c gb fb) Y H Q:=by
 obtain⟨Z,d,R,e,w⟩:=h;have w:Go c g Y (λZ d=>(fa Z d).bind λj b=>(λZ b=>(fb Z b).bind λh a=>Aw (o j h) a) Z b) H Q Z d:=w;refine aQ (Go.bind (g':=ga) R e w) λp H1 hI110=>?_
 obtain⟨j,b,e,i,l,r,d⟩:=hI110;refine aQ (Go.bind (g':=gb) (f:=fb) (k:=λh _ a=>Aw (o j h) a) e i d) λl H2 hI111=>?_
 obtain⟨h,a,R2,b,n,o,m⟩:=hI111;obtain⟨d,e,q⟩:=Go.done m b;exact s j h p l H2 a d Q b (r.toR.ext n i) o.toR e λv d a b n=>q v d a b (n.val R2 g)
def ji{f:Operator}{r:R2}{o:D->D->Option D}{a b:Expr}{pos:Pos}{e d:Fn S}{ga gb:Gr}(h:AX X (binaryOp f) r)(l:Bu c r o)(i:DE X c ga a e)(j:DE X c gb b d):DE X c g (.BinOp a f b pos) (f2 S o e d):=
 (aM h i j).imp λY H Q h=>dj l h
def vh(f:AX X (compareOp op) r)(j:Bu c r o)(e:DE X c ga a fa)(i:DE X c gb b fb)(d:behindInMarks op b=false):DE X c g (.Compare a [op] [b] pos) (f2 S o fa fb):=
 (nM f e i d).imp λY H Q h=>dj j h
def jj{r:R2}{o:D->D->Option D}{a b:Expr}{pos:Pos}{e d:Fn S}{ga gb:Gr}(h:IxR X r)(l:Bu c r o)(f:DE X c ga a e)(i:DE X c gb b d)(j:GG b):DE X c g (.Subscript a b pos) (f2 S o e d):=
 (fL h f i j).imp λY H Q h=>dj l h
abbrev AO(S:Type):=Ae->S->Ap S Bool
instance tDT{S:Type}{W:Wd S}(c:Dx W)(f:AO S):TT:=λY H Q=>∃Z st,As c H Y Z/\W.ok st H/\
 Aa (f Z st) (λb st'=>∀H',Af W H H'->W.ok st' H'->Q b H') λx st'=>∀H',Af W H H'->W.ok st' H'->c.Ex x st' H'
instance DT(X:Cx){S:Type}{W:Wd S}(c:Dx W)(e:Expr)(f:AO S):Prop:=PT X e (tDT c f)
instance D.bool?:D->Option Bool
 | .bl b=>some b
 | _=>none
instance fB(S:Type)(f:Fn S):AO S:=λZ st=>(f Z st).bind λd st1=>Aw d.bool? st1
def eC(h:tDT c (fB S f) Y H Q):tB (tD c g f) Y H Q:=by
 obtain⟨Z,b,R,a,w⟩:=h;refine{Z,b,R,a,aj (ae.mp w) (λd a q v H1 e f z=>?_) λx a q=>q};obtain⟨b,h,q⟩:=ar.mp q;cases d with
 | bl k=>
   cases h;have z':Is c.K 'w' H1 (.bl b) v:=z.toR;exact{_,Is.bl_iff.mp z',q H1 e f}
 | _=>cases h
def vi{e:Expr}{f:Fn S}(h:DE X c g e f)(b:∀a,isTrue e X.env a=(do let v <-a;standAt e.pos;holding [v] (truthy v)):=by intro _;rfl):DT X c e (fB S f):=
 (nh h b).imp λY H Q q=>eC q
def vj{d:CmpOp}{r:R2}{o:D->D->Option D}{a b:Expr}{pos:Pos}{e f:Fn S}{ga gb:Gr}(i:AX X (compareOp d) r)(m:Bu c r o)(h:DE X c ga a e)(l:DE X c gb b f)(j:behindInMarks d b=false):DT X c (.Compare a [d] [b] pos) (fB S (f2 S o e f)):=
 (fG i h l j).imp λY H Q q=>by
  have a:tB (tD c .R (f2 S o e f)) Y H Q:=eC q;exact dj (ga:=ga) (gb:=gb) m a
def HY(S:Type)(f1 f2:AO S):AO S:=λZ st=>(f1 Z st).bind λb st1=>if b=true then f2 Z st1 else .ok false st1
instance fOr(S:Type)(f1 f2:AO S):AO S:=λZ st=>(f1 Z st).bind λb st1=>if b=true then .ok true st1 else f2 Z st1
def HZ(S:Type)(f1:AO S):AO S:=λZ st=>(f1 Z st).bind λb st1=>.ok (!b) st1
instance DW(X:Cx){S:Type}{W:Wd S}(c:Dx W)(e:Expr)(f:AO S):Prop:=PW X e (tDT c f)
def PW.imp{X:Cx}{e:Expr}{t a:TT}(h:PW X e t)(i:∀Y H Q,a Y H Q->t Y H Q):PW X e a:=λw b s Y H Q I q=>h w b s Y H Q I (i Y H Q q)
def DW.dt{e:Expr}{f:AO S}(h:DW X c e f):DT X c e f:=PW.pt h
def vm{a:Expr}{pos:Pos}{f:AO S}(h:DT X c a f):DW X c (.BoolOp .And [a] pos) f:=pw_and1 h
def vn{a:Expr}{pos:Pos}{f:AO S}(h:DT X c a f):DW X c (.BoolOp .Or [a] pos) f:=pw_or1 h
def vo{a b:Expr}{d:List Expr}{pos:Pos}{e f2:AO S}(f:DT X c a e)(h:DW X c (.BoolOp .And (b::d) pos) f2):DW X c (.BoolOp .And (a::b::d) pos) (HY S e f2):=
 (pw_and f h).imp λY H Q hI5=>by
  obtain⟨Z,a,R,h,w⟩:=hI5;refine{Z,a,R,h,aj (ae.mp w) (λb a q H1 e d=>?_) λx a q=>q};cases b with
  | true=>exact{Z,a,R.ext h e,d,aj q (λb f q H2 a=>q H2 (e.trans a)) λx f q H2 a=>q H2 (e.trans a)}
  | false=>exact q H1 e d
def vp{a b:Expr}{d:List Expr}{pos:Pos}{e f2:AO S}(f:DT X c a e)(h:DW X c (.BoolOp .Or (b::d) pos) f2):DW X c (.BoolOp .Or (a::b::d) pos) (fOr S e f2):=
 (pw_or f h).imp λY H Q hI6=>by
  obtain⟨Z,a,R,h,w⟩:=hI6;refine{Z,a,R,h,aj (ae.mp w) (λb a q H1 e d=>?_) λx a q=>q};cases b with
  | false=>exact{Z,a,R.ext h e,d,aj q (λb f q H2 a=>q H2 (e.trans a)) λx f q H2 a=>q H2 (e.trans a)}
  | true=>exact q H1 e d
def vq{a:Expr}{pos:Pos}{b:AO S}(d:DT X c a b):DT X c (.UnaryOp .Not a pos) (HZ S b):=
 (ni d).imp λY H Q ⟨Z,b,R,a,w⟩=>{Z,b,R,a,aj (ae.mp w) (λb a q H1 e d=>q H1 e d) λx a q=>q}
abbrev AY(S:Type):=Ae->S->Ap S (List D)
instance tDA{S:Type}{W:Wd S}(c:Dx W)(f:AY S):TA:=λY H Q=>∃Z st,As c H Y Z/\W.ok st H/\
 Aa (f Z st) (λl st'=>∀vs H',Af W H H'->W.ok st' H'->aa c.K 'w' H' l vs->Q vs H') λx st'=>∀H',Af W H H'->W.ok st' H'->c.Ex x st' H'
instance DA(X:Cx){S:Type}{W:Wd S}(c:Dx W)(es:List Expr)(f:AY S):Prop:=PA X es (tDA c f)
def PA.imp(h:PA X e t)(i:∀Y H Q,t' Y H Q->t Y H Q):PA X e t':=λp a s Y H Q I q=>h p a s Y H Q I (i Y H Q q)
def F8(S:Type):AY S:=λ_ st=>.ok [] st
def Cp(S:Type)(f:Fn S)(r:AY S):AY S:=λZ st=>(f Z st).bind λd st1=>(r Z st1).bind λl st2=>.ok (d::l) st2
def ph:DA X c [] (F8 S):=bg.imp λY H Q ⟨Z,b,R,a,w⟩=>w [] H Af.refl a (aa.nil.mpr rfl)
def aX{e:Expr}{es:List Expr}{f:Fn S}{r:AY S}(h:DE X c g e f)(b:DA X c es r)(a:autoParam 's' uR):DA X c (e::es) (Cp S f r):=
 (aT h b a).imp λY H Q hI7=>by
  obtain⟨Z,a,R,f,w⟩:=hI7;refine{Z,a,R,f,aj (ae.mp w) (λd a q v H1 e b z=>?_) λx a q=>q};refine{Z,a,R.ext f e,b,aj (ae.mp q) (λl f q h H2 d a i=>?_) λx f q H2 d a=>q H2 (e.trans d) a};exact q (v::h) H2 (e.trans d) a (aa.cons.mpr {v,h,rfl,z.toR.ext d b,i})
instance fA(S:Type)(o:List D->Option D)(f:AY S):Fn S:=λZ st=>(f Z st).bind λl st1=>Aw (o l) st1
def Ct{S:Type}{W:Wd S}(c:Dx W)(r:List V->Hp->VK->Prop)(o:List D->Option D):Prop:=∀l vs H (st:S) d Q,W.ok st H->aa c.K 'w' H l vs->o l=some d->
 (∀v H',Af W H H'->W.ok st H'->AB c H H' d v->Q v H')->r vs H Q
def eD(b:Ct c r o)(h:tD c g (fA S o f) Y H Q):tDA c f Y H λi H1=>r i H1 Q:=by
 obtain⟨Z,a,R,j,w⟩:=h;refine{Z,a,R,j,aj (ae.mp w) (λl a q i H1 e f z=>?_) λx a q=>q};obtain⟨d,h,q⟩:=ar.mp q;exact b l i H1 a d Q f z h λv l a b n=>q v l (e.trans a) b ((n.val (R.ext j e) g).back e f)
def CD(l:List D):Option D:=if D.immL l=true/\l.length<=sizeLine then some (.tup l) else none
def DY(l:List D):Option D:=if D.immL l=true/\l.length<=sizeLine then some (.lst l) else none
open H in
def pi:Ct c (λb H1 Q=>b.length<=sizeLine/\∀p,H1 p=none->Q (.ref p) (Ad H1 p (.tup b))) CD:=by
 intro l a H h d Q f z e q;unfold CD at e;split at e
 ·rename_i h
  cases e;exact{by rw[<-z.length];exact h.2,λp a=>q _ _ (Af.laid a) (aJ f a) (AB.tup f a (λ_ n=>n) h.1 z)}
 ·cases e
open H in
def pj:Ct c (λb H1 Q=>b.length<=sizeLine/\∀p,H1 p=none->Q (.ref p) (Ad H1 p (.lst b))) DY:=by
 intro l a H h d Q f z e q;unfold DY at e;split at e
 ·rename_i h
  cases e;exact{by rw[<-z.length];exact h.2,λp a=>q _ _ (Af.laid a) (aJ f a) (AB.lst f a (λ_ n=>n) h.1 z)}
 ·cases e
def pk{es:List Expr}{x1}{pos:Pos}{f:AY S}(h:DA X c es f):DE X c g (.Tuple es x1 pos) (fA S CD f):=(iF h).imp λY H Q q=>eD (g:=g) pi q
def pp{es:List Expr}{pos:Pos}{f:AY S}(h:DA X c es f):DE X c g (.List es pos) (fA S DY f):=(fJ h).imp λY H Q q=>eD (g:=g) pj q
def jk{id:String}{x:Str}(h:PE X (.Call (.Name x p) (e::es) [] pos) (tCB r t))(a:t=tDA c f)(b:Ct c r o):DE X c g (.Call (.Name x p) (e::es) [] pos) (fA S o f):=
 h.imp λY H Q q=>by rw[a];exact eD (g:=g) b q
def Ed(K:FG)(F:List D->Ap Unit D):Sp:=λvs H Q _=>∃l,aa K (λ_=>True) H l vs/\Aa (F l) (λd _=>∀v H',BH H H'->Is K (λb=>H b=none) H' d v->Q v H') λ_ _=>False
instance spS{S:Type}(W:Wd S)(K:FG)(F:List D->S->Ap S D):Sp:=λvs H Q _=>∃l us st,vs=W.h::us/\aa K 'w' H l us/\W.ok st H/\
 Aa (F l st) (λd st'=>∀v H',Af W H H'->W.ok st' H'->Is K (λb=>¬W.mv b/\H b=none) H' d v->Q v H') λ_ _=>False
def GI(S:Type)(F:List D->Ap Unit D)(f:AY S):Fn S:=λZ st=>(f Z st).bind λl st1=>match F l with
 | .ok d _=>.ok d st1
 | _=>.bad
def pq(h:tD c g (GI S F f) Y H Q):F5 (Ed c.K F) [] E (tDA c f) Y H Q:=by
 obtain⟨Z,st,R,ok,w⟩:=h;refine{Z,st,R,ok,aj (ae.mp w) (λl st1 q vs H1 e ok1 z=>?_) λx st1 q=>q};show Ed c.K F (vs++[]) H1 Q E;rw[Ck];refine{l,aa.mono (A:=λb=>¬W.mv b) {λ_ _ z _=>z,λb o a z=>⟨trivial,z⟩} z,?_};cases q':F l with
 | ok d u=>
   rw[q'] at q;intro v H' s n;have okH:W.ok st1 H':=W.stay st1 H1 H' ok1 (λb o _ hb=>s b o hb) λb o hb _=>s b o hb
   have n':AB c H1 H' d v:=Is.mono (A:=λb=>H1 b=none) {λ_ _ z _=>z,λb o a z=>{{bx ok1 a,a},z}} n;exact q v H' (e.trans s.ext) okH ((n'.val (R.ext ok e) g).back e ok1)
 | exc x u=>rw[q'] at q;exact q.elim
 | bad=>rw[q'] at q;exact q.elim
def GJ(S:Type)(F:List D->S->Ap S D)(i:Nat)(f:AY S):Fn S:=λZ st=>match Z[i]? with
 | some .hnd=>(f Z st).bind λl st1=>match F l st1 with
   | .ok d st2=>.ok d st2
   | _=>.bad
 | _=>.bad
def pu{i:Nat}(h:tD c g (GJ S F i f) Y H Q):F5 (spS W c.K F) [] E (DX (Bx i) (tDA c f)) Y H Q:=by
 obtain⟨Z,st,R,ok,w⟩:=h;unfold GJ at w;cases hi:Z[i]? with
 | none=>rw[hi] at w;exact w.elim
 | some s=>
   rw[hi] at w;have zs:=R.slot i s hi;cases s with
   | no=>exact w.elim
   | bor d=>exact w.elim
   | own d=>exact w.elim
   | hnd=>
     have zs:(Y[i]?).join=some W.h:=zs;have ei:Y[i]?=some (some W.h):=by
      cases q:Y[i]? with
      | none=>rw[q] at zs;cases zs
      | some a=>rw[q] at zs;rw[show a=some W.h from zs]
     refine{W.h,ei,Z,st,R,ok,aj (ae.mp w) (λl st1 q vs H1 e ok1 z=>?_) λx st1 q=>q};show spS W c.K F ((W.h::vs)++[]) H1 Q E;rw[Ck];refine{l,vs,st1,rfl,z,ok1,?_};cases q':F l st1 with
     | ok d st2=>
       rw[q'] at q;intro v H' s okH n;exact q v H' (e.trans s) okH ((AB.val (R.ext ok e) n g).back e ok1)
     | exc x u=>rw[q'] at q;exact q.elim
     | bad=>rw[q'] at q;exact q.elim
end
inductive Fl where
 | nx (Z:Ae) | rt (d:D) | bk (Z:Ae) | ct (Z:Ae)
abbrev Ax(S:Type):=Ae->S->Ap S Fl
structure Be{S:Type}{W:Wd S}(c:Dx W)(H:Hp)(Y:St)(Z:Ae)(H':Hp)(Y':St)(Z':Ae):Prop where
 keep:∀b o,H b=some o->¬W.mv b->¬Ow Y Z b->H' b=some o
 own:∀b o,H b=some o->¬W.mv b->Ow Y' Z' b->Ow Y Z b
instance F0{S:Type}{W:Wd S}(c:Dx W)(H':Hp):Prop:=∀b o,c.H0 b=some o->¬W.mv b->H' b=some o
instance Nx{S:Type}{W:Wd S}(c:Dx W)(Q:St->Hp->Prop)(Y:St)(Z:Ae)(H:Hp)(Z':Ae)(st':S):Prop:=∀Y' H',Be c H Y Z H' Y' Z'->W.ok st' H'->As c H' Y' Z'->Q Y' H'
instance Rt{S:Type}{W:Wd S}(c:Dx W)(Q:VK)(d:D)(st':S):Prop:=∀v H',F0 c H'->W.ok st' H'->Is c.K (λb=>¬W.mv b/\c.H0 b=none) H' d v->Q v H'
def B2{S:Type}{W:Wd S}(c:Dx W)(D:Dp)(Y:St)(Z:Ae)(H:Hp)(fl:Fl)(st':S):Prop:=match fl with
 | .nx Z'=>Nx c D.nx Y Z H Z' st'
 | .bk Z'=>Nx c D.bk Y Z H Z' st'
 | .ct Z'=>Nx c D.ct Y Z H Z' st'
 | .rt d=>Rt c D.rt d st'
def CF{S:Type}{W:Wd S}(c:Dx W)(x:AG)(st':S):Prop:=∀H',F0 c H'->W.ok st' H'->c.Ex x st' H'
instance tS{S:Type}{W:Wd S}(c:Dx W)(F:Ax S):TS:=λD Y H=>∃Z st,As c H Y Z/\W.ok st H/\Aa (F Z st) (B2 c D Y Z H) (CF c)
instance DS(X:Cx){S:Type}{W:Wd S}(c:Dx W)(s:Stmt)(F:Ax S):Prop:=PS X s (tS c F)
def BK(X:Cx){S:Type}{W:Wd S}(c:Dx W)(s:List Stmt)(F:Ax S):Prop:=CA X s (tS c F)
section
variable{S:Type}{W:Wd S}{c:Dx W}{H H1 H2 H':Hp}{Y Y1 Y2 Y':St}{Z Z1 Z2 Z':Ae}{st st1:S}
def Be.refl:Be c H Y Z H Y Z:={λ_ _ h _ _=>h,λ_ _ _ _ h=>h}
def Be.trans(a:Be c H Y Z H1 Y1 Z1)(b:Be c H1 Y1 Z1 H2 Y2 Z2):Be c H Y Z H2 Y2 Z2 where
 keep:=λx o h m w=>b.keep x o (a.keep x o h m w) m λd=>w (a.own x o h m d)
 own:=λx o h m w=>by
  by_cases d:Ow Y Z x
  ·exact d
  ·exact a.own x o h m (b.own x o (a.keep x o h m d) m w)
def Af.frm(e:Af W H H'):Be c H Y Z H' Y Z:={λb o h m _=>e b o h m,λ_ _ _ _ h=>h}
def Af.f0(R:As c H Y Z)(e:Af W H H'):F0 c H':=λb o h n=>e b o (R.frame b o h n) n
def Nx.from{Q:St->Hp->Prop}(h:Nx c Q Y Z H Z' st)(f:Be c H Y Z H1 Y1 Z1):Nx c Q Y1 Z1 H1 Z' st:=λY' H' g a R=>h Y' H' (f.trans g) a R
theorem B2.from{D:Dp}{a:Fl}(h:B2 c D Y Z H a st)(f:Be c H Y Z H1 Y1 Z1):B2 c D Y1 Z1 H1 a st:=by
 cases a with
 | nx r=>exact Nx.from h f
 | bk r=>exact Nx.from h f
 | ct r=>exact Nx.from h f
 | rt d=>exact h
def Be.keepT(R:As c H Y Z)(g:W.ok st H)(f:Be c H Y Z H' Y' Z'):A9 (Av c Y Z) (Av c Y' Z') H H':=
 bw (λb o h t=>f.keep b o h (λm=>by
  obtain⟨o',a,d,e⟩:=W.live st H b g m;rw[h] at a;cases a;rcases t with⟨u,z⟩ | ⟨g,u,z⟩
  ·exact d u z
  ·exact e g u z) λw=>by
  obtain⟨_,_,o',a,d,e⟩:=R.owOk w;rw[h] at a;cases a;rcases t with⟨u,z⟩ | ⟨g,u,z⟩
  ·exact d u z
  ·exact e g u z) λb o a h=>{{a.1,λw=>a.2.1 (f.own b o h a.1 w),a.2.2},f.keep b o h a.1 a.2.1}
def bS{g:Gr}{f:Fn S}{k:D->Ax S}{D:Dp}(h:tS c (λZ st=>(f Z st).bind λd st1=>k d Z st1) D Y H) :
 tD c g f Y H λv H1=>∃Z d a st1,As c H Y Z/\W.ok a H/\As c H1 Y Z/\W.ok st1 H1/\Af W H H1/\BE c g Y Z H H1 d v/\Aa (k d Z st1) (B2 c D Y Z H) (CF c):=by
 obtain⟨Z,st,R,b,w⟩:=h;refine{Z,st,R,b,aj (ae.mp w) (λd st1 q v H1 e a z=>?_) λx st1 q H1 e a=>q H1 (e.f0 R) a};exact{Z,d,st,st1,R,b,R.ext b e,a,e,z,q}
def pC{f:AO S}{k:Bool->Ax S}{D:Dp}(h:tS c (λZ st=>(f Z st).bind λd st1=>k d Z st1) D Y H) :
 tDT c f Y H λb H1=>∃Z st1,As c H1 Y Z/\W.ok st1 H1/\Aa (k b Z st1) (B2 c D Y Z H1) (CF c):=by
 obtain⟨Z,st,R,f,w⟩:=h;refine{Z,st,R,f,aj (ae.mp w) (λd st1 q H1 e a=>?_) λx st1 q H1 e a=>q H1 (e.f0 R) a};exact{Z,st1,R.ext f e,a,aj q (λd b q=>q.from e.frm) λx b q=>q}
end
section
variable{X:Cx}{S:Type}{W:Wd S}{c:Dx W}
def Jy(S:Type):Ax S:=λZ st=>.ok (.nx Z) st
def E3(S:Type)(F G:Ax S):Ax S:=λZ st=>(F Z st).bind λfl st1=>match fl with
 | .nx Z1=>G Z1 st1
 | .rt d=>.ok (.rt d) st1
 | .bk r=>.ok (.bk r) st1
 | .ct r=>.ok (.ct r) st1
def vt:BK X c [] (Jy S):=ef.imp λD Y H ⟨Z,b,R,a,w⟩=>w Y H Be.refl a R
def vv{s:Stmt}{r:List Stmt}{F G:Ax S}(a:DS X c s F)(b:BK X c r G):BK X c (s::r) (E3 S F G):=
 (bp a b).imp λD Y H hI8=>by
  obtain⟨Z,a,R,b,w⟩:=hI8;refine{Z,a,R,b,aj (ae.mp w) (λd a q=>?_) λx a q=>q};cases d with
  | nx e=>exact λh H1 f b g=>{e,a,g,b,aj q (λd e q=>q.from f) λx e q=>q}
  | rt d=>exact q
  | bk r=>exact q
  | ct r=>exact q
def vx{s:Stmt}{F:Ax S}(a:DS X c s F):BK X c [s] F:=cB a
def H8(S:Type)(f:Fn S):Ax S:=λZ st=>(f Z st).bind λ_ st1=>.ok (.nx Z) st1
def vy{g:Gr}{e:Expr}{f:Fn S}{pos:Pos}(h:DE X c g e f)(a:autoParam (swapsWith e none pos.line X.env=pure false) uR):DS X c (.Expr e pos) (H8 S f):=
 (iA h a).imp λD Y H q=>aQ (bS (g:=g) (k:=λ_ Z a=>.ok (.nx Z) a) q) λv H1 ⟨Z,d,f,a,R,i,h,b,e,z,w⟩=>w Y H1 e.frm b h
instance D.flat:D->Bool
 | .lst l=>D.immL l
 | .dct _ l=>D.immL l
 | _=>false
def Hk(S:Type)(f:Fn S):Ax S:=λZ st=>(f Z st).bind λd st1=>if d.imm=true\/d.flat=true then .ok (.rt d) st1 else .bad
def fR{K:FG}{A b:Addr->Prop}{H:Hp}{d:D}{a:Addr}(h:Is K A H d (.ref a))(m:d.flat=true)(n:b a):Is K b H d (.ref a):=by
 cases d with
 | lst l=>
   obtain⟨b,d,e,_,f,i⟩:=Is.lst_iff.mp h;cases e;exact Is.lst n f (aa.ofImm m i)
 | dct f l=>
   obtain⟨b,d,e,_,i,q⟩:=Is.dct_iff.mp h;cases e;exact Is.dct_iff.mpr {a,d,rfl,n,aa.ofImm m i,q}
 | _=>simp[D.flat] at m
def fS{K:FG}{A:Addr->Prop}{H:Hp}{d:D}{v:V}(h:Is K A H d v)(m:d.flat=true):∃a,v=.ref a/\d.mut=true/\A a/\∃o,H a=some o:=by
 cases d with
 | lst l=>
   obtain⟨b,a,e,n,d,i⟩:=Is.lst_iff.mp h;exact{b,e,rfl,n,_,d}
 | dct f l=>
   obtain⟨b,a,e,n,i,q⟩:=Is.dct_iff.mp h;rcases q with⟨_,_,_,q⟩ | ⟨_,_,_,q⟩<;>exact{b,e,rfl,n,_,q}
 | _=>simp[D.flat] at m
theorem As.none0{H:Hp}{Y:St}{Z:Ae}{b:S}(R:As c H Y Z)(d:W.ok b H){a:Addr}(h:H a=none):c.H0 a=none:=by
 cases q:c.H0 a with
 | none=>rfl
 | some o=>rw[R.frame a o q (bx d h)] at h;cases h
def vz{e:Expr}{f:Fn S}{pos:Pos}(h:DE X c .F e f):DS X c (.Return (some e) pos) (Hk S f):=
 (cC h).imp λD Y H q=>aQ (bS (g:=.F) q) λv H1 hI9=>by
  obtain⟨Z,d,h,b,R,f,i,a,e,z,w⟩:=hI9;by_cases m:d.imm=true\/d.flat=true
  ·rw[if_pos m] at w
   refine w v H1 (e.f0 R) a ?_;rcases m with m | m
   ·exact Is.ofImm m z.1
   ·obtain⟨a,rfl,b,d,_⟩:=fS z.1 m
    exact fR z.1 m {d.1,R.none0 f (z.2 a rfl b)}
  ·rw[if_neg m] at w;exact w.elim
instance own?(Z:Ae)(i:Nat):Option D:=match Z[i]? with
 | some (.own d)=>if d.flat=true then some d else none
 | some (.bor d)=>if d.imm=true then some d else none
 | _=>none
def H9(S:Type)(i:Nat):Ax S:=λZ st=>(Aw (own? Z i) st).bind λd st1=>.ok (.rt d) st1
open H in
def vA{i:Nat}{x:Str}{p pos:Pos}(h:PE X (.Name x p) (Bx i)):DS X c (.Return (some (.Name x p)) pos) (H9 S i):=
 (cC h).imp λD Y H hI10=>by
  obtain⟨Z,a,R,j,w⟩:=hI10;obtain⟨d,e,q⟩:=ar.mp (ae.mp w);have l:∀{o:Option (Option V)} {v:V},o.join=some v->o=some (some v):=λ{o v} e=>by cases o with
   | none=>cases e
   | some a=>rw[show a=some v from e]
  unfold own? at e;cases b:Z[i]? with
  | none=>rw[b] at e;cases e
  | some s=>
    rw[b] at e;have z:=R.slot i s b;cases s with
    | no=>cases e
    | hnd=>cases e
    | bor d'=>
      have e:(if d'.imm=true then some d' else none)=some d:=e;split at e
      ·rename_i m
       cases e;obtain⟨v,g,f⟩:=z;exact{v,l g,q v H (λb o h n=>R.frame b o h n) j (Is.ofImm m f)}
      ·cases e
    | own d'=>
      have e:(if d'.flat=true then some d' else none)=some d:=e;split at e
      ·rename_i m
       cases e;obtain⟨a,g,n,f,t⟩:=z;have i:Is c.K 'w' H d (.ref a):=(t.mono (A':=λb=>¬W.mv b) {λ_ _ z _=>z,λb o a z=>⟨a.1,z⟩} λo z=>z).isTop n.1;exact{_,l g,q _ H (λb o h n=>R.frame b o h n) j (fR i m ⟨n.1,f⟩)}
      ·cases e
instance sIf(S:Type)(t:AO S)(F G:Ax S):Ax S:=λZ st=>(t Z st).bind λb st1=>if b=true then F Z st1 else G Z st1
open H in
def vB{e:Expr}{a b:List Stmt}{pos:Pos}{t:AO S}{F G:Ax S}(h:DT X c e t)(d:BK X c a F)(f:BK X c b G):DS X c (.If e a b pos) (sIf S t F G):=
 (eg h d f).imp λD Y H q=>by
  obtain⟨Z,f,R,g,w⟩:=pC (k:=λb=>if b=true then F else G) (by
   obtain⟨Z,f,R,g,w⟩:=q;refine{Z,f,R,g,?_};have e:sIf S t F G Z f=(t Z f).bind λd a=>(if d=true then F else G) Z a:=by
    unfold sIf;congr;funext d a;cases d<;>rfl
   rw[e] at w;exact w)
  refine{Z,f,R,g,aj w (λb a q H1 e f=>?_) λx a q=>q};obtain⟨g,d,i,a,h⟩:=q H1 e f;cases b with
  | true=>exact⟨g,d,i,a,h⟩
  | false=>exact⟨g,d,i,a,h⟩
end
section
variable{X:Cx}{S:Type}{W:Wd S}{c:Dx W}{H H1 H':Hp}{Y Y':St}{Z Z':Ae}{st:S}{i:Nat}{d:D}{v:V}
def aA{α:Type}{l:List α}{i j:Nat}{a b:α}(h:(l.set i a)[j]?=some b):(j=i/\b=a)\/(j≠i/\l[j]?=some b):=by
 by_cases e:j=i
 ·subst e
  rw[List.getElem?_set_self'] at h;cases q:l[j]? with
  | none=>rw[q] at h;cases h
  | some x=>rw[q] at h;exact .inl {rfl,(Option.some.inj h).symm}
 ·rw[Ci (Ne.symm e)] at h
  exact .inr ⟨e,h⟩
def aY(e:o.join=some v):o=some (some v):=by
 cases o with
 | none=>cases e
 | some a=>rw[show a=some v from e]
def jl{b:Addr}(h:Ow (Y.set i (some v)) (Z.set i (.bor d)) b):Ow Y Z b:=by
 obtain⟨j,e,a,f⟩:=h;rcases aA a with⟨_,z⟩ | ⟨n,z⟩
 ·cases z
 ·rcases aA f with⟨m,_⟩ | ⟨_,y⟩
  ·exact absurd m n
  ·exact⟨j,e,z,y⟩
def As.setB(R:As c H Y Z)(l:i<Z.length)(h:Is c.K (Av c Y Z) H d v):As c H (Y.set i (some v)) (Z.set i (.bor d)) where
 len:=by rw[DD,DD];exact R.len
 frame:=R.frame
 avl:=R.avl
 slot:=λj s f=>by
  have k:A9 (Av c Y Z) (Av c (Y.set i (some v)) (Z.set i (.bor d))) H H:={λ_ _ z _=>z,λb o a z=>{{a.1,λw=>a.2.1 (jl w),a.2.2},z}};rcases aA f with⟨e,z⟩ | ⟨n,z⟩
  ·subst z
   subst e;refine{v,?_,Is.mono k h};rw[Gx (by rw[R.len];exact l)];rfl
  ·rw[Ci (Ne.symm n)]
   have q:=R.slot j s z;cases s with
   | no=>trivial
   | bor e=>obtain⟨v',b,f⟩:=q;exact{v',b,f.mono k}
   | own e=>obtain⟨a,b,g,f,t⟩:=q;exact{a,b,g,f,t.mono k λo z=>z}
   | hnd=>exact q
 uniq:=λj h a e e' g m b f=>by
  rcases aA g with⟨_,z⟩ | ⟨n,z⟩
  ·cases z
  ·rcases aA m with⟨_,z'⟩ | ⟨g,z'⟩
   ·cases z'
   ·rw[Ci (Ne.symm n)] at b
    rw[Ci (Ne.symm g)] at f;exact R.uniq j h a e e' z z' b f
def aZ:Be c H Y Z H (Y.set i (some v)) (Z.set i (.bor d)):={λ_ _ h _ _=>h,λ_ _ _ _ w=>jl w}
def jm{a b:Addr}(h:Ow (Y.set i (some (.ref a))) (Z.set i (.own d)) b):Ow Y Z b\/b=a:=by
 obtain⟨j,e,f,b⟩:=h;rcases aA f with⟨m,_⟩ | ⟨n,z⟩
 ·rcases aA b with⟨_,y⟩ | ⟨n,_⟩
  ·cases y;exact .inr rfl
  ·exact absurd m n
 ·rcases aA b with⟨m,_⟩ | ⟨_,y⟩
  ·exact absurd m n
  ·exact .inl ⟨j,e,z,y⟩
def As.setO{a:Addr}(R:As c H Y Z)(C:W.ok st H)(x:Af W H H1){b:S}(e:W.ok b H1)(G:i<Z.length)(h:Is c.K (Av c Y Z) H1 d (.ref a))(m:d.flat=true)(p:H a=none) :
 As c H1 (Y.set i (some (.ref a))) (Z.set i (.own d))/\Be c H Y Z H1 (Y.set i (some (.ref a))) (Z.set i (.own d)):=by
 have l:¬W.mv a:=bx C p;have k:A9 (Av c Y Z) (Av c (Y.set i (some (.ref a))) (Z.set i (.own d))) H H1:=bw (λb o e t=>x b o e λf=>by
  obtain⟨o',g,y,j⟩:=W.live st H b C f;rw[e] at g;cases g;rcases t with⟨u,z⟩ | ⟨n,u,z⟩
  ·exact y u z
  ·exact j n u z) λb o f e=>{{f.1,(λw=>by
   rcases jm w with w | w
   ·exact f.2.1 w
   ·subst w;rw[p] at e;cases e),f.2.2},x b o e f.1}
 refine{{by rw[DD,DD];exact R.len,λb o e n=>x b o (R.frame b o e n) n,λj s f=>?_,(λb h=>let ⟨n,z,o,g,q⟩:=R.avl b h;{n,z,o,x b o g n,q}),λj E b e e' B A r u=>?_},{λb o e n w=>x b o e n,λb o e n w=>?_}}
 ·rcases aA f with⟨e,z⟩ | ⟨n,z⟩
  ·subst z
   subst e;refine{a,by rw[Gx (by rw[R.len];exact G)];rfl,{l,λw=>by obtain⟨_,_,o,g,_⟩:=R.avl a w;rw[p] at g;cases g},R.none0 C p,?_};cases d with
   | lst l=>
     obtain⟨b,C,e,_,I,f⟩:=Is.lst_iff.mp h;cases e;exact{C,I,aa.ofImm m f}
   | dct I l=>
     obtain⟨b,C,e,_,f,q⟩:=Is.dct_iff.mp h;cases e;exact{C,aa.ofImm m f,q}
   | _=>simp[D.flat] at m
  ·rw[Ci (Ne.symm n)]
   have q:=R.slot j s z;cases s with
   | no=>trivial
   | bor e=>obtain⟨v',h,f⟩:=q;exact{v',h,f.mono k}
   | own e=>obtain⟨b,h,y,f,t⟩:=q;exact{b,h,y,f,t.mono k λo z=>x b o z y.1}
   | hnd=>exact q
 ·have fresh:∀(j:Nat) (e:D),Z[j]?=some (.own e)->Y[j]?=some (some (.ref a))->False:=λj e B A=>by
   obtain⟨_,_,o,g,_⟩:=R.owOk ⟨j,e,B,A⟩;rw[p] at g;cases g
  rcases aA B with⟨h,z⟩ | ⟨n,z⟩
  ·rcases aA A with⟨a,z'⟩ | ⟨f,z'⟩
   ·rw[h,a]
   ·rw[Ci (Ne.symm f)] at u
    rcases aA r with⟨_,y⟩ | ⟨g,_⟩
    ·cases y;exact(fresh E e' z' u).elim
    ·exact absurd h g
  ·rcases aA A with⟨a,z'⟩ | ⟨f,z'⟩
   ·rw[Ci (Ne.symm n)] at r
    rcases aA u with⟨_,y⟩ | ⟨g,_⟩
    ·cases y;exact(fresh j e z r).elim
    ·exact absurd a g
   ·rw[Ci (Ne.symm n)] at r
    rw[Ci (Ne.symm f)] at u;exact R.uniq j E b e e' z z' r u
 ·rcases jm w with w | w
  ·exact w
  ·subst w;rw[p] at e;cases e
instance put(Z:Ae)(i:Nat)(d:D):Option Ae:=if i<Z.length then some (Z.set i (.bor d)) else none
instance putN(Z:Ae)(i:Nat)(d:D):Option Ae:=if i<Z.length then some (Z.set i (if d.flat=true then .own d else .bor d)) else none
def FH(S:Type)(i:Nat)(f:Fn S):Ax S:=λZ st=>(f Z st).bind λd st1=>(Aw (putN Z i d) st1).bind λZ' st2=>.ok (.nx Z') st2
def Hl(S:Type)(i:Nat)(f:Fn S):Ax S:=λZ st=>(f Z st).bind λd st1=>(Aw (put Z i d) st1).bind λZ' st2=>.ok (.nx Z') st2
open H in
def jn{f:Fn S}{D:Dp}(h:tS c (FH S i f) D Y H):FB (tD c .F f) (FA i) D Y H:=
 aQ (bS (g:=.F) h) λv H1 hI11=>by
  obtain⟨Z,d,b,a,R,n,o,f,e,z,w⟩:=hI11;obtain⟨Z',b,w⟩:=ar.mp (ae.mp w);unfold putN at b;split at b
  ·rename_i h
   by_cases m:d.flat=true
   ·rw[if_pos m] at b
    cases b;obtain⟨a,rfl,j,l,_⟩:=fS z.1 m;obtain⟨R2,l⟩:=R.setO (i:=i) n e f h z.1 m (z.2 a rfl j);exact w (Y.set i (some (.ref a))) H1 l f R2
   ·rw[if_neg m] at b
    cases b;exact w _ H1 (e.frm.trans aZ) f (o.setB h z.1)
  ·cases b
open H in
def pD{f:Fn S}{D:Dp}(h:tS c (Hl S i f) D Y H):FB (tD c .B f) (FA i) D Y H:=
 aQ (bS (g:=.B) h) λv H1 hI12=>by
  obtain⟨Z,d,f,a,R,j,h,b,e,z,w⟩:=hI12;obtain⟨Z',a,w⟩:=ar.mp (ae.mp w);unfold put at a;split at a
  ·rename_i f
   cases a;exact w _ H1 (e.frm.trans aZ) b (h.setB f z)
  ·cases a
def vC{x:Str}{e:Expr}{f:Fn S}{p pos:Pos}(a:X.N.Nodup)(b:X.N[i]?=some x)(g:Loc X.env.scope x)(j:DE X c .F e f)(h:autoParam (swapsWith e (some (.Name x p)) pos.line X.env=pure false) uR)(l:X.fn x=true\/X.env.scope.names.lookup x=some .local:=by first | exact .inl rfl | exact .inr rfl | assumption) :
 DS X c (.Assign [.Name x p] e pos) (FH S i f):=(bv a b g j h l).imp λD Y H q=>jn q
def vD{x:Str}(a:X.N.Nodup)(j:X.N[i]?=some x)(b:Loc X.env.scope x)(g:DE X c .B e f)(l:autoParam (swapsWith e (some (.Name x p)) pos.line X.env=pure false) uR)(h:X.fn x=true\/X.env.scope.names.lookup x=some .local:=by first | exact .inl rfl | exact .inr rfl | assumption) :
 DS X c (.Assign [.Name x p] e pos) (Hl S i f):=(bv a j b g l h).imp λD Y H q=>pD q
abbrev BQ:=D->Ae->Option Ae
abbrev Fh:=List D->Ae->Option Ae
instance tG{S:Type}{W:Wd S}(c:Dx W)(G:BQ):TG:=λv Y H Q=>∃Z d Z' st,As c H Y Z/\W.ok st H/\Is c.K (Av c Y Z) H d v/\G d Z=some Z'/\∀Y',As c H Y' Z'->Be c H Y Z H Y' Z'->Q Y' H
instance tGs{S:Type}{W:Wd S}(c:Dx W)(G:Fh):TGs:=λvs Y H Q=>∃Z l Z' st,As c H Y Z/\W.ok st H/\aa c.K (Av c Y Z) H l vs/\G l Z=some Z'/\∀Y',As c H Y' Z'->Be c H Y Z H Y' Z'->Q Y' H
instance DG(X:Cx){S:Type}{W:Wd S}(c:Dx W)(e:Expr)(G:BQ):Prop:=PG X e (tG c G)
instance DGs(X:Cx){S:Type}{W:Wd S}(c:Dx W)(e:List Expr)(G:Fh):Prop:=PGs X e (tGs c G)
def PG.imp(h:PG X e t)(i:∀v Y H Q,t' v Y H Q->t v Y H Q):PG X e t':=λa s Y H v u Q I r q=>h a s Y H v u Q I r (i v Y H Q q)
def PGs.imp(h:PGs X e t)(i:∀v Y H Q,t' v Y H Q->t v Y H Q):PGs X e t':=λa s Y H v u Q I r q=>h a s Y H v u Q I r (i v Y H Q q)
instance gN(i:Nat):BQ:=λd Z=>put Z i d
open H in
def vE{x:Str}{pos:Pos}(a:X.N.Nodup)(f:X.N[i]?=some x)(b:Loc X.env.scope x)(e:X.fn x=true\/X.env.scope.names.lookup x=some .local:=by first | exact .inl rfl | exact .inr rfl | assumption):DG X c (.Name x pos) (gN i):=
 (eh a f b e).imp λv Y H Q hI13=>by
  obtain⟨Z,d,Z',st,R,a,z,e,q⟩:=hI13;unfold gN put at e;split at e
  ·rename_i h
   cases e;exact q _ (R.setB h z) aZ
  ·cases e
instance gsNil:Fh:=λl Z=>match l with
 | []=>some Z
 | _=>none
def Dk(G:BQ)(Gs:Fh):Fh:=λl Z=>match l with
 | d::r=>(G d Z).bind λZ1=>Gs r Z1
 | []=>none
def vF:DGs X c [] gsNil:=fx.imp λv Y H Q hI14=>by
 obtain⟨Z,l,Z',st,R,a,z,e,q⟩:=hI14;cases l with
 | nil=>cases e;exact{aa.nil.mp z,q Y R Be.refl}
 | cons _ _=>cases e
def vG{e:Expr}{es:List Expr}{G:BQ}{b:Fh}(a:DG X c e G)(f:DGs X c es b)(g:autoParam ((assignEach (e::es) X.env).map (·.2)=assign e X.env::(assignEach es X.env).map (·.2)) uR):DGs X c (e::es) (Dk G b):=
 (cV a f g).imp λv Y H Q hI15=>by
  obtain⟨Z,l,Z',st,R,f,z,e,q⟩:=hI15;cases l with
  | nil=>cases e
  | cons d r=>
    obtain⟨g,m,l,h,j⟩:=aa.cons.mp z;have e:(G d Z).bind (λa=>b r a)=some Z':=e;cases b:G d Z with
    | none=>rw[b] at e;cases e
    | some a=>
      rw[b] at e;refine{g,m,l,Z,d,a,st,R,f,h,b,λm l g=>?_};exact{a,r,Z',st,l,f,j.mono (g.keepT R f),e,λa R2 b=>q a R2 (g.trans b)}
instance gT(n:Nat)(Gs:Fh):BQ:=λd Z=>match d with
 | .tup l=>if l.length=n then Gs l Z else none
 | _=>none
open H in
def vH{es:List Expr}{k:Nat}{pos:Pos}{b:Fh}{n:Nat}(f:X.calm=true)(m:c.K=X.K)(h:DGs X c es b)(e:autoParam ((assignEach es X.env).length=n) uR)(a:autoParam ((assignEach es X.env).findIdx? (·.1)=none) uR):DG X c (.Tuple es k pos) (gT n b):=
 (fy f h e a).imp λv Y H Q hI16=>by
  obtain⟨Z,d,Z',st,R,g,z,e,q⟩:=hI16;cases d with
  | tup l=>
    obtain⟨a,o,h,j,f⟩:=Is.tup_sq z;have e:(if l.length=n then b l Z else none)=some Z':=e;split at e
    ·rename_i b
     exact{a,o,h,by rw[<-m];exact j,by rw[<-f.length];exact b,Z,l,Z',st,R,g,f,e,q}
    ·cases e
  | _=>cases e
def Ia(S:Type)(G:BQ)(f:Fn S):Ax S:=λZ st=>(f Z st).bind λd st1=>(Aw (G d Z) st1).bind λZ' st2=>.ok (.nx Z') st2
def vI{a e:Expr}{f:Fn S}{G:BQ}{pos:Pos}(j:DE X c .B e f)(l:DG X c a G)(m:autoParam (swapsWithSole [a] e pos.line X.env=pure false) uR)(h:autoParam (swappedStores [a] e X.env=pure none) uR)(b:autoParam ((assignEach [a] X.env).map (·.2)=[assign a X.env]) uR):DS X c (.Assign [a] e pos) (Ia S G f):=
 (fD j l m h b).imp λD Y H q=>aQ (bS (g:=.B) q) λv H1 hI17=>by
  obtain⟨Z,d,f,b,R,h,j,a,e,z,w⟩:=hI17;obtain⟨Z',f,w⟩:=ar.mp (ae.mp w);exact{Z,d,Z',b,j,a,z,f,λY' h b=>w Y' H1 (e.frm.trans b) a h}
end
def Hm{S:Type}{W:Wd S}(c:Dx W)(Y:St)(Z:Ae)(H:Hp)(J:It)(l:List D):Prop:=∀(c':Dx W) (hK:c'.K=c.K) Y2 Z2 H2 (st2:S),A9 (Av c Y Z) (Av c' Y2 Z2) H H2->As c' H2 Y2 Z2->W.ok st2 H2->∀i:Nat,
 (∀d,l[i]?=some d->J.go i H2/\∀x H3,J.yld i H2 x H3->BH H2 H3/\Is c.K (Av c' Y2 Z2) H3 d x)/\(l.length<=i->J.stop i H2)
abbrev FnI(S:Type):=AY S
instance tI{S:Type}{W:Wd S}(c:Dx W)(f:FnI S):TI:=λY H R=>∃Z st,As c H Y Z/\W.ok st H/\
 Aa (f Z st) (λl st'=>∀J H',Af W H H'->W.ok st' H'->Hm c Y Z H' J l->R J H') λx st'=>∀H',Af W H H'->W.ok st' H'->c.Ex x st' H'
instance DI(X:Cx){S:Type}{W:Wd S}(c:Dx W)(tg iter:Expr)(f:FnI S):Prop:=PI X tg iter (tI c f)
def PI.imp(h:PI X tg e t)(i:∀Y H R,t' Y H R->t Y H R):PI X tg e t':=λa s Y H R I q=>h a s Y H R I (i Y H R q)
section
variable{X:Cx}{S:Type}{W:Wd S}{c:Dx W}{tg:Expr}
def Ek(S:Type)(sel:D->Option (List D))(f:Fn S):FnI S:=λZ st=>(f Z st).bind λd st1=>Aw (sel d) st1
instance D.tup?:D->Option (List D)
 | .tup l=>some l
 | _=>none
instance D.lst?:D->Option (List D)
 | .lst l=>some l
 | _=>none
def jo(g:c.K=X.K)(h:DE X c .B e f):DI X c tg e (Ek S D.tup? f):=
 (nC h).imp λY H R hI18=>by
  obtain⟨Z,b,d,a,w⟩:=hI18;refine{Z,b,d,a,aj (ae.mp w) (λd a q v H1 e f z=>?_) λx a q=>q};obtain⟨l,h,q⟩:=ar.mp q;cases d with
  | tup m=>
    cases h;obtain⟨a,b,j,s0,i⟩:=Is.tup_iff.mp z;have s:AN c.K H1 a b:=.of s0;refine{a,j,{b,by rw[<-g];exact s},q _ H1 e f ?_};intro m j o n H2 p k R2 f j;have e:AN c.K H2 a b:=.of (k.tup a b s0);have f:aa c.K (Av m o n) H2 l b:=i.mono k;refine{λd j=>?_,λa=>{b,by rw[<-g];exact e,by rw[<-f.length];exact a}};obtain⟨i,d,l⟩:=f.get j;exact{{b,i,by rw[<-g];exact e,d},λx H3 hI19=>by
     obtain⟨f,y⟩:=hI19;subst f;have a:=y b (by rw[<-g];exact e);rw[d] at a;cases a;exact{BH.refl _,l}}
  | _=>cases h
def pE(a:c.K=X.K)(h:DE X c .B e f):DI X c tg e (Ek S D.lst? f):=
 (iB h).imp λY H R hI20=>by
  obtain⟨Z,b,d,a,w⟩:=hI20;refine{Z,b,d,a,aj (ae.mp w) (λd a q v H1 e f z=>?_) λx a q=>q};obtain⟨l,g,q⟩:=ar.mp q;cases d with
  | lst m=>
    cases g;obtain⟨a,b,h,n,s,i⟩:=Is.lst_iff.mp z;refine{a,h,{b,.of s},q _ H1 e f ?_};intro m h p o H2 q k R2 f j;have e:H2 a=some (.lst b):=(k.nod a _ n s).2;have f:aa c.K (Av m p o) H2 l b:=i.mono k;refine{λd h=>?_,λa=>{b,.of e,by rw[<-f.length];exact a}};obtain⟨i,d,j⟩:=f.get h;exact{{b,i,.of e,d},λx H3 hI21=>by
     obtain⟨f,y⟩:=hI21;subst f;have a:=y b (.of e);rw[d] at a;cases a;exact{BH.refl _,j}}
  | _=>cases g
def Db(lo:Int)(n:Nat):List D:=(List.range n).map λ(k:Nat)=>D.int (lo+(k:Int))
def GK:List D->Option (List D)
 | [.int j]=>if -(2 ^ 62)<=j/\j<2 ^ 62 then some (Db 0 j.toNat) else none
 | _=>none
def FI(S:Type)(o:List D->Option (List D))(f:AY S):FnI S:=λZ st=>(f Z st).bind λl st1=>Aw (o l) st1
def pF(f:Int)(n:Nat):Hm c Y Z H (Itr f n) (Db f n):=by
 intro b a g d H2 e k R2 b j;refine{λd a=>?_,λb=>?_}
 ·unfold Db at a
  rw[AT] at a;cases q:(List.range n)[j]? with
  | none=>rw[q] at a;cases a
  | some m=>
    rw[q] at a;cases a;obtain⟨d,e⟩:=AZ.mp q;rw[List.getElem_range] at e;subst e;rw[Dy] at d;exact{d,λx H3 ⟨e,a⟩=>by subst e a;exact{BH.refl _,Is.int_iff.mpr rfl}}
 ·unfold Db at b
  rw[Ag,Dy] at b;exact b
open H in
def vJ{a:Expr}{f:AY S}{p pos:Pos}(b:Gl X "range")(d:X.mg "range" = none)(e:DA X c [a] f)(g:autoParam (starEach [a] X.env=[(false,eval a X.env)]) uR):DI X c tg (.Call (.Name "range" p) [a] [] pos) (FI S GK f):=
 (nE b d e g).imp λY H R hI22=>by
  obtain⟨Z,a,d,b,w⟩:=hI22;refine{Z,a,d,b,aj (ae.mp w) (λl b q a H1 e d z=>?_) λx b q=>q};obtain⟨m,a,q⟩:=ar.mp q;unfold GK at a;split at a
  ·rename_i j
   split at a
   ·rename_i h
    cases a;obtain⟨v,r,b,g,f⟩:=aa.cons.mp z;rw[aa.nil.mp f,Is.int_iff.mp g] at b;exact{j,b,h.1,h.2,q _ H1 e d (pF 0 _)}
   ·cases a
  ·cases a
instance frz1(i:Nat)(Z:Ae):Ae:=match Z[i]? with
 | some (.own d)=>Z.set i (.bor d)
 | _=>Z
instance frz:List Nat->Ae->Ae
 | [],Z=>Z
 | i::r,Z=>frz r (frz1 i Z)
open H in
def As.frz1{H:Hp}{Y:St}{Z:Ae}{v:S}(i:Nat)(R:As c H Y Z)(a:W.ok v H):As c H Y (frz1 i Z)/\Be c H Y Z H Y (L2.frz1 i Z):=by
 unfold L2.frz1;split
 ·rename_i d h
  obtain⟨a,l,n,f,t⟩:=R.slot i _ h;have o:=aY l;have b:i<Z.length:=(AZ.mp h).1;have g:∀b,Ow Y (Z.set i (.bor d)) b->Ow Y Z b/\b≠a:=λb hI23=>by
   obtain⟨j,e,p,m⟩:=hI23;rcases aA p with⟨_,z⟩ | ⟨r,z⟩
   ·cases z
   ·refine{⟨j,e,z,m⟩,λq=>?_}
    subst q;exact r (R.uniq j i b e d z h m o)
  have k:A9 (Av c Y Z) (Av c Y (Z.set i (.bor d))) H H:={λ_ _ z _=>z,λb o a z=>{{a.1,λw=>a.2.1 (g b w).1,a.2.2},z}};refine{{by rw[DD];exact R.len,R.frame,λj s d=>?_,R.avl,λj x b e e' p m u i=>?_},{λb o h _ _=>h,λb o _ _ w=>(g b w).1}}
  ·rcases aA d with⟨h,z⟩ | ⟨r,z⟩
   ·subst z h
    exact{_,l,(t.mono k λo z=>z).isTop {n.1,λw=>(g a w).2 rfl,n.2}}
   ·have q:=R.slot j s z
    cases s with
    | no=>trivial
    | bor e=>obtain⟨v',l,a⟩:=q;exact{v',l,a.mono k}
    | own e=>obtain⟨b,l,a,f,t⟩:=q;exact{b,l,a,f,t.mono k λo z=>z}
    | hnd=>exact q
  ·rcases aA p with⟨_,z⟩ | ⟨_,z⟩
   ·cases z
   ·rcases aA m with⟨_,z'⟩ | ⟨_,z'⟩
    ·cases z'
    ·exact R.uniq j x b e e' z z' u i
 ·exact⟨R,Be.refl⟩
theorem As.frz{H:Hp}{Y:St}{e:S}(a:W.ok e H):∀(l:List Nat) {Z:Ae},As c H Y Z->As c H Y (L2.frz l Z)/\Be c H Y Z H Y (L2.frz l Z)
 | [],Z,R=>⟨R,Be.refl⟩
 | i::r,Z,R=>by
   obtain⟨b,d⟩:=R.frz1 i a;obtain⟨R2,f⟩:=As.frz a r b;exact{R2,d.trans f}
def DK(S:Type)(G:BQ)(B:Ax S):List D->Ax S
 | [],Z,st=>.ok (.nx Z) st
 | d::r,Z,st=>(Aw (G d Z) st).bind λZ1 st1=>(B Z1 st1).bind λfl st2=>match fl with
   | .nx Z2=>DK S G B r Z2 st2
   | .ct Z2=>DK S G B r Z2 st2
   | .bk Z2=>.ok (.nx Z2) st2
   | .rt d=>.ok (.rt d) st2
def Ib(S:Type)(fz:List Nat)(f:FnI S)(G:BQ)(B:Ax S):Ax S:=λZ st=>(f (frz fz Z) st).bind λl st1=>DK S G B l (frz fz Z) st1
def vK{a:Expr}{b:List Stmt}{f:FnI S}{G:BQ}{B:Ax S}{pos:Pos}(p:List Nat)(d:PassesOwn 'e' X.A X.env X.xe)(h:X.calm=true)(C:DI X c tg a f)(e:DG X c tg G)(r:BK X c b B)(g:∀x,foldedSetIterable a X.env x=pure x:=by intro _;rfl):DS X c (.For tg a b [] pos) (Ib S p f G B):=
 (nG d h C e r g).imp λD Y H hI24=>by
  obtain⟨Z,b,R,a,w⟩:=hI24;obtain⟨f,g⟩:=R.frz a p;refine{frz p Z,b,f,a,aj (ae.mp w) (λl d q J H1 e b n=>?_) λx d q H1 e b=>q H1 (e.f0 R) b};have o:=f.ext a e;refine{λi m j H2=>∃h a,i<=l.length/\m=l.length-i/\Be c H1 Y (frz p Z) H2 j h/\As c H2 j h/\W.ok a H2/\Aa (DK S G B (l.drop i) h a) (B2 c D j h H2) (CF c),{l.length,frz p Z,d,AE _,rfl,Be.refl,o,b,?_},?_}
  ·rw[F1]
   exact aj q (λv a q=>(q.from g).from e.frm) λx a q=>q
  ·rintro i m j H2 ⟨h,a,d,rfl,z,R2,g,s⟩
   obtain⟨e,E⟩:=n c rfl j h H2 a (z.keepT o b) R2 g i;by_cases n:i<l.length
   ·have d:l[i]?=some l[i]:=AU n
    obtain⟨b,o⟩:=e _ d;rw[List.drop_eq_getElem_cons n] at s;refine .inr {b,λm H3=>∃e d,Be c H1 Y (frz p Z) H3 m e/\As c H3 m e/\W.ok d H3/\Aa (DK S G B (l.drop (i+1)) e d) (B2 c D m e H3) (CF c),λm H3 ⟨e,d,A,u,f,b⟩=>{l.length-(i+1),'o',e,d,n,rfl,A,u,f,b},λx H3 y=>?_};obtain⟨n,J⟩:=o x H3 y;have A:Af W H2 H3:=n.ext;have f:W.ok a H3:=W.stay a H2 H3 g (λb o _ r=>n b o r) λb o r _=>n b o r
    have u:=R2.ext g A;obtain⟨r,b,o⟩:=ar.mp (ae.mp s);refine{h,_,r,a,u,f,J,b,λy M I=>?_};have n:Be c H2 j h H3 y r:=A.frm.trans I;refine{r,a,M,f,aj (ae.mp o) (λv b f=>?_) λx b q=>q};have o:∀a,Aa (DK S G B (l.drop (i+1)) a b) (B2 c D j h H2) (CF c)->Nx c (λm H3=>∃e d,Be c H1 Y (frz p Z) H3 m e/\As c H3 m e/\W.ok d H3/\Aa (DK S G B (l.drop (i+1)) e d) (B2 c D m e H3) (CF c)) y r H3 a b:=
     λa f d H5 h e m=>{a,b,z.trans (n.trans h),m,e,aj f (λv b q=>q.from (n.trans h)) λx b q=>q}
    cases v with
    | nx a=>exact o a f
    | ct a=>exact o a f
    | bk a=>exact λd H5 h e m=>f d H5 (n.trans h) e m
    | rt d=>exact f
   ·have a:i=l.length:=by omega
    subst a;rw[List.drop_length] at s;exact .inl {E (Am _),s j H2 Be.refl g R2}
end
theorem bI:∀{l m:List D},D.immL l=true->D.immL m=true->D.immL (l++m)=true
 | [],_,_,h=>h
 | d::l,m,h,k=>by
   have a:d.imm=true/\D.immL l=true:=by simpa [D.immL] using h
   show (d.imm&&D.immL (l++m))=true;rw[a.1,bI a.2 k];rfl
abbrev Dx.avoid{S:Type}{W:Wd S}(c:Dx W)(av:Addr->Prop):Dx W:=⟨c.K,c.H0,c.Ex,av⟩
def Bp(Z:Ae)(ixs:List (Option Nat)):Ae:=ixs.map λo=>match o with
 | some i=>(match Z[i]? with
   | some (.bor d)=>.bor d
   | some (.own d)=>.bor d
   | some .hnd=>.hnd
   | _=>.no)
 | none=>.no
section
variable{S:Type}{W:Wd S}{c:Dx W}{H H1:Hp}{Y:St}{Z:Ae}{st:S}
def eE:¬Ow Y' (Bp Z ixs) b:=λhI25=>by
 obtain⟨j,d,h,_⟩:=hI25;unfold Bp at h;rw[AT] at h;cases q:ixs[j]? with
 | none=>rw[q] at h;cases h
 | some o=>
   rw[q] at h;cases o with
   | none=>cases h
   | some i=>
     have h:(match Z[i]? with | some (.bor d)=>Sl.bor d | some (.own d)=>.bor d | some .hnd=>.hnd | _=>.no)=Sl.own d:=Option.some.inj h;split at h<;>cases h
def As.pick{D:Addr}(R:As c H Y Z)(g:W.ok st H)(l:H D=none)(ixs:List (Option Nat)):As (c.avoid λb=>c.av b\/b=D) (Ad H D (.lst [])) (L2.pick Y ixs) (Bp Z ixs) where
 len:=by unfold L2.pick Bp;rw[Ag,Ag]
 frame:=λb o h n=>by
  have e:H b=some o:=R.frame b o h n;show Ad H D _ b=some o;rw[af (au e l)];exact e
 uniq:=λi j a d e f _ _ _=>(eE (Y':=L2.pick Y ixs) (Z:=Z) (ixs:=ixs) (b:=a) {i,d,f,by assumption}).elim
 avl:=λb h=>by
  rcases h with h | h
  ·obtain⟨n,z,o,f,q⟩:=R.avl b h
   exact{n,z,o,by show Ad H D _ b=some o;rw[af (au f l)];exact f,q}
  ·subst h
   exact{bx g l,R.none0 g l,_,aq,(λu z=>by cases z),λf u z=>by cases z}
 slot:=λj s g=>by
  unfold Bp at g;rw[AT] at g;have m:∀{A:Addr->Prop},(∀b,A b->¬W.mv b/\¬c.av b)->A9 A (Av (c.avoid λb=>c.av b\/b=D) (L2.pick Y ixs) (Bp Z ixs)) H (Ad H D (.lst [])):=λ{A} f=>
   bw (λb o e _=>by rw[af (au e l)];exact e) λb o a e=>{{(f b a).1,eE,λw=>w.elim (f b a).2 (au e l)},by rw[af (au e l)];exact e}
  cases q:ixs[j]? with
  | none=>rw[q] at g;cases g
  | some o=>
    rw[q] at g;have e:(L2.pick Y ixs)[j]?=(ixs[j]?).map (λo=>match o with | some i=>(Y[i]?).join | none=>none):=by
     unfold L2.pick;rw[AT]
     all_goals rfl
    rw[e,q];cases o with
    | none=>cases g;trivial
    | some i=>
      have g:(match Z[i]? with | some (.bor d)=>Sl.bor d | some (.own d)=>.bor d | some .hnd=>.hnd | _=>.no)=s:=Option.some.inj g;show Jx _ _ _ (Y[i]?).join s;cases h:Z[i]? with
      | none=>rw[h] at g;cases g;trivial
      | some s'=>
        rw[h] at g;have z:=R.slot i s' h;cases s' with
        | no=>cases g;trivial
        | hnd=>cases g;exact z
        | bor d=>cases g;obtain⟨v,e,f⟩:=z;exact{v,e,f.mono (m λb a=>⟨a.1,a.2.2⟩)}
        | own d=>
          cases g;obtain⟨a,e,n,f,t⟩:=z;refine{.ref a,e,?_};have d:=t.mono (c:=c) (m λb a=>⟨a.1,a.2.2⟩) λo z=>by rw[af (au z l)];exact z
          obtain⟨o,a,_⟩:=t.there;exact Top.isTop (c:=c) {n.1,eE,λw=>w.elim n.2 (au a l)} d
end
def Ds(S:Type)(G:BQ)(t:AO S)(e:Fn S):List D->List D->Ae->S->Ap S (List D)
 | [],acc,_,st=>.ok acc st
 | d::r,acc,Z,st=>(Aw (G d Z) st).bind λZ1 st1=>(t Z1 st1).bind λb st2=>if b=true then
    (e Z1 st2).bind λy st3=>if y.imm=true/\acc.length<sizeLine then Ds S G t e r (acc++[y]) Z1 st3 else .bad
   else Ds S G t e r acc Z1 st2
def F9(S:Type)(fz:List Nat)(ixs:List (Option Nat))(f:FnI S)(G:BQ)(t:AO S)(e:Fn S):Fn S:=λZ st=>(f (frz fz Z) st).bind λl st1=>(Ds S G t e l [] (Bp (frz fz Z) ixs) st1).bind λr st2=>.ok (.lst r) st2
instance DTs(X:Cx){S:Type}{W:Wd S}(c:Dx W)(ifs:List Expr)(t:AO S):Prop:=PTs X ifs (tDT c t)
def PTs.imp(h:PTs X e t)(i:∀Y H Q,t' Y H Q->t Y H Q):PTs X e t':=λa s Y H Q I q=>h a s Y H Q I (i Y H Q q)
def Hn(S:Type):AO S:=λ_ st=>.ok true st
def vL{X:Cx}{S:Type}{W:Wd S}{c:Dx W}:DTs X c [] (Hn S):=o4.imp λY H Q ⟨Z,b,R,a,w⟩=>w H Af.refl a
def vM{X:Cx}{S:Type}{W:Wd S}{c:Dx W}{e:Expr}{t:AO S}(h:DT X c e t):DTs X c [e] t:=o5 h
section
variable{X:Cx}{S:Type}{W:Wd S}{c:Dx W}{N':List Str}{ixs:List (Option Nat)}{scope:Scope}{tg iter elt:Expr}{ifs:List Expr}{f:FnI S}{G:BQ}{t:AO S}{e:Fn S}{pos:Pos}{g:Gr}
instance gEx{S:Type}{W:Wd S}(c:Dx W)(G:BQ):TG:=λv Y H Q=>∃av,tG (c.avoid av) G v Y H Q
instance tEx{S:Type}{W:Wd S}(c:Dx W)(t:AO S):TT:=λY H Q=>∃av,tDT (c.avoid av) t Y H Q
instance eEx{S:Type}{W:Wd S}(c:Dx W)(e:Fn S):TE:=λY H Q=>∃av,tD (c.avoid av) .R e Y H Q
def Jz(S:Type){W:Wd S}(c:Dx W)(G:BQ)(t:AO S)(e:Fn S)(l:List D)(A:Addr)(H1:Hp)(Pq:D->S->Prop)(Pe:AG->S->Prop)(i:Nat)(Y2:St)(H2:Hp):Prop:=
 ∃Z2 st2 acc ys,As (c.avoid λb=>c.av b\/b=A) H2 Y2 Z2/\(∀b,¬Ow Y2 Z2 b)/\W.ok st2 H2/\Af W H1 H2/\H2 A=some (.lst ys)/\D.immL acc=true/\aa c.K (λ_=>False) H2 acc ys/\
  Aa ((Ds S G t e (l.drop i) acc Z2 st2).bind λr st2=>.ok (.lst r) st2) Pq Pe
instance cPq(S:Type){W:Wd S}(c:Dx W)(g:Gr)(Y:St)(Z:Ae)(H:Hp)(Q:VK):D->S->Prop:=λd st'=>∀v H',Af W H H'->W.ok st' H'->BE c g Y Z H H' d v->Q v H'
instance cPe(S:Type){W:Wd S}(c:Dx W)(H:Hp):AG->S->Prop:=λx st'=>∀H',Af W H H'->W.ok st' H'->c.Ex x st' H'
def fT{o:HO}{l:List V}(s:CU o):o≠.lst l:=by
 rintro rfl;rcases s with⟨_,e⟩ | ⟨_,_,e⟩<;>cases e
def jp{o:List Nat}(h:tD c g (F9 S o ixs f G t e) Y H Q):HX (tI c f) ixs (gEx c G) (tEx c t) (eEx c e) Y H Q:=by
 obtain⟨Z,a,R,b,w⟩:=h;obtain⟨i,d⟩:=R.frz b o;refine{frz o Z,a,i,b,aj (ae.mp w) (λl n q J H1 M a y=>?_) λx n q=>q};have j:=R.ext b M;have d:=i.ext b M;intro A O;have I:¬W.mv A:=bx a O;have hA0:H A=none:=M.none a O;refine{λi m p H2=>i<=l.length/\m=l.length-i/\Jz S c G t e l A H1 (cPq S c g Y Z H Q) (cPe S c H) i p H2,{l.length,AE _,rfl,Bp (frz o Z) ixs,n,[],[],d.pick a O ixs,λb=>eE,aJ a O,Af.laid O,aq,rfl,aa.nil.mpr rfl,by rw[F1];exact q},?_};intro i m p H2 r;obtain⟨hle,rfl,U,d,j,J,R2,v,B,P,hA2,im,il,w2⟩:=r;have s:A9 (Av c Y (frz o Z)) (Av (c.avoid λb=>c.av b\/b=A) p U) H1 H2:=bw (λb o h tt=>P b o h λm=>by
  obtain⟨o',h',C,r⟩:=W.live n H1 b a m;rw[h] at h';cases h';rcases tt with⟨u,z⟩ | ⟨ob,u,z⟩
  ·exact C u z
  ·exact r ob u z) λb o a h=>{{a.1,v b,λw=>w.elim a.2.2 (au h O)},P b o h a.1}
 obtain⟨E,h2⟩:=y (c.avoid λb=>c.av b\/b=A) rfl p U H2 d s R2 B i;by_cases C:i<l.length
 ·have p:l[i]?=some l[i]:=AU C
  obtain⟨r,s⟩:=E _ p;rw[List.drop_eq_getElem_cons C] at w2;refine .inr {r,λp H3=>Jz S c G t e l A H1 (cPq S c g Y Z H Q) (cPe S c H) (i+1) p H3,λp H3 r=>{l.length-(i+1),Nat.sub_lt_sub_left C (Nat.lt_succ_self i),C,rfl,r},λx H3 y=>?_};obtain⟨T,iv⟩:=s x H3 y;have N:Af W H2 H3:=T.ext;have s:W.ok d H3:=W.stay d H2 H3 B (λb o _ p=>T b o p) λb o p _=>T b o p
  have R3:=R2.ext (c:=c.avoid λb=>c.av b\/b=A) B N;have w2:Aa (((Aw (G l[i] U) d).bind λE n=>(t E n).bind λb d=>if b=true then
   (e E d).bind λy n=>if y.imm=true/\j.length<sizeLine then Ds S G t e (l.drop (i+1)) (j++[y]) E n else .bad
   else Ds S G t e (l.drop (i+1)) j E d).bind λr d=>.ok (.lst r) d) (cPq S c g Y Z H Q) (cPe S c H):=w2
  obtain⟨r,n,Z⟩:=ar.mp (ae.mp (ae.mp w2));refine{(λb=>c.av b\/b=A),U,_,r,d,R3,s,iv,n,λY4 U Y=>?_};have Q:∀b,¬Ow Y4 r b:=λb E=>by
   obtain⟨n,_,o,ho,_⟩:=U.owOk E;exact v b (Y.own b o ho n E)
  refine{(λb=>c.av b\/b=A),r,d,U,s,aj (ae.mp Z) (λb v Y H5 E d=>?_) λx v q H5 E d=>q H5 ((M.trans P).trans (N.trans E)) d};have R5:=U.ext (c:=c.avoid λb=>c.av b\/b=A) s E;have Z:H5 A=some (.lst J):=E A _ (T A _ hA2) I;cases b with
  | false=>
    exact{r,v,j,J,R5,Q,d,P.trans (N.trans E),Z,im,(il.ext N B λ_ z=>z.elim).ext E s λ_ z=>z.elim,ae.mpr Y}
  | true=>
    refine{(λb=>c.av b\/b=A),r,v,R5,d,aj (ae.mp Y) (λy U q6 v H6 Y T z6=>?_) λx U q H6 Y T=>q H6 ((M.trans P).trans (N.trans (E.trans Y))) T};by_cases hy:y.imm=true/\j.length<sizeLine
    ·rw[if_pos hy] at q6
     have q:H6 A=some (.lst J):=Y A _ Z I;have il6:aa c.K (λ_=>False) H6 j J:=((il.ext N B λ_ z=>z.elim).ext E s λ_ z=>z.elim).ext Y d λ_ z=>z.elim
     refine{J,q,by rw[<-il6.length];exact hy.2,r,U,j++[y],J++[v],?_,Q,?_,?_,aq,?_,?_,ae.mpr q6}
     ·-- the slots do not see the list
      have x:=R5.ext (c:=c.avoid λb=>c.av b\/b=A) d Y;have j:∀b,Av (c.avoid λb=>c.av b\/b=A) Y4 r b->b≠A:=λb a z=>a.2.2 (.inr z)
      have k:A9 (Av (c.avoid λb=>c.av b\/b=A) Y4 r) (Av (c.avoid λb=>c.av b\/b=A) Y4 r) H6 (Ad H6 A (.lst (J++[v]))):=bw (λb o h tt=>by
       have p:b≠A:=bP h q (fT tt);rw[af p];exact h) λb o a h=>{a,by rw[af (j b a)];exact h}
      refine{x.len,λb o h n=>?_,λj s Z=>?_,λb h=>?_,x.uniq}
      ·have p:b≠A:=au h (x.avl A (.inr rfl)).2.1
       rw[af p];exact x.frame b o h n
      ·have r:=x.slot j s Z
       cases s with
       | no=>trivial
       | bor d=>obtain⟨v',M,i1⟩:=r;exact{v',M,i1.mono k}
       | own d=>obtain⟨a,ea,_,_,_⟩:=r;exact(Q a {j,d,Z,aY ea}).elim
       | hnd=>exact r
      ·obtain⟨n,z,o,h',d⟩:=x.avl b h
       by_cases p:b=A
       ·exact{n,z,_,(congrArg (Ad H6 A _) p).trans aq,(λu z=>by cases z),λob u z=>by cases z}
       ·exact{n,z,o,by rw[af p];exact h',d}
     ·refine W.stay U H6 _ T (λb o m h=>?_) λb o h s=>?_
      ·have p:b≠A:=λz=>I (z▸m)
       rw[af p];exact h
      ·have p:b≠A:=bP h q (fT s)
       rw[af p];exact h
     ·intro b o h n
      have p:b≠A:=au h O;rw[af p];exact((P.trans (N.trans (E.trans Y))) b o h n)
     ·exact bI im (by simp[D.immL,hy.1])
     ·have d:Is c.K (λ_=>False) H6 y v:=Is.ofImm hy.1 z6
      have j:A9 (λ_=>False) (λ_=>False) H6 (Ad H6 A (.lst (J++[v]))):=bw (λb o h tt=>by
       have p:b≠A:=bP h q (fT tt);rw[af p];exact h) λb o a h=>a.elim
      exact(il6.append (aa.one d)).mono j
    ·rw[if_neg hy] at q6;exact q6.elim
 ·have a:i=l.length:=Fc hle (ED C)
  rw[a,List.drop_length] at w2;refine .inl {h2 (BY a.symm),w2 (.ref A) H2 (M.trans P) B (AB.val R ?_ g)};exact Is.lst ⟨I,hA0⟩ hA2 (aa.ofImm im il)
def vN(n:List Nat)(j:E2 X N' ixs scope)(i:X.calm=true)(l:DI X c tg iter f)(d:∀a h C s H b,DG (BU X N' scope h C s H b) (c.avoid a) tg G/\DTs (BU X N' scope h C s H b) (c.avoid a) ifs t/\DE (BU X N' scope h C s H b) (c.avoid a) .R elt e)(m:∀x,foldedSetIterable iter X.env x=pure x:=by intro _;rfl):DE X c g (.ListComp elt [⟨tg,iter,ifs,0⟩] scope pos) (F9 S n ixs f G t e):=
 (o6 (g:=gEx c G) (tc:=tEx c t) (te:=eEx c e) j i l (λh C s H b=>
  {λi s' Y j v u Q I r ⟨a,q⟩=>(d a h C s H b).1 i s' Y j v u Q I r q,λi s' Y j Q I ⟨a,q⟩=>(d a h C s H b).2.1 i s' Y j Q I q,λi s' Y j Q I ⟨a,q⟩=>(d a h C s H b).2.2 i s' Y j Q I q}) m).imp λY H Q q=>jp (g:=g) q
def vO{i:Nat}{y:Str}{n b:Pos}(v:List Nat)(q:E2 X N' ixs scope)(u:X.calm=true)(r:X.N.Nodup)(m:X.N[i]?=some y)(o:X.env.scope.names.lookup y=some .local)(p:DI X c tg iter f)(j:∀a d C s H h,DG (BU X N' scope d C s H h) (c.avoid a) tg G/\DTs (BU X N' scope d C s H h) (c.avoid a) ifs t/\DE (BU X N' scope d C s H h) (c.avoid a) .R elt e)(l:swapsWith (.ListComp elt [{tg,iter,ifs,0}] scope pos) (some (.Name y n)) b.line X.env=pure true)(z:∀x,foldedSetIterable iter X.env x=pure x:=by intro _;rfl):DS X c (.Assign [.Name y n] (.ListComp elt [⟨tg,iter,ifs,0⟩] scope pos) b) (FH S i (F9 S v ixs f G t e)):=
 (o7 (g:=gEx c G) (tc:=tEx c t) (te:=eEx c e) q u r m o p (λd C s H h=>
  {λb s' Y i v u Q I r ⟨a,q⟩=>(j a d C s H h).1 b s' Y i v u Q I r q,λb s' Y i Q I ⟨a,q⟩=>(j a d C s H h).2.1 b s' Y i Q I q,λb s' Y i Q I ⟨a,q⟩=>(j a d C s H h).2.2 b s' Y i Q I q}) l z).imp λD Y H q=>jp (g:=.F) (jn q)
def Cu(S:Type)(t:AO S)(B:Ax S):Nat->Ax S
 | 0,_,_=>.bad
 | n+1,Z,st=>(t Z st).bind λb st1=>if b=true then (B Z st1).bind λfl st2=>match fl with
    | .nx Z2=>Cu S t B n Z2 st2
    | .ct Z2=>Cu S t B n Z2 st2
    | .bk Z2=>.ok (.nx Z2) st2
    | .rt d=>.ok (.rt d) st2
   else .ok (.nx Z) st1
open Classical in
def FJ(S:Type)(t:AO S)(B:Ax S):Ax S:=λZ st=>if h:∃n,Cu S t B n Z st≠.bad then Cu S t B h.choose Z st else .bad
theorem eF:∀(n k:Nat) (Z:Ae) (a:S),Cu S t B n Z a≠.bad->Cu S t B (n+k) Z a=Cu S t B n Z a
 | 0,_,_,_,h=>(h rfl).elim
 | n+1,k,Z,a,h=>by
   rw[show n+1+k=(n+k)+1 by omega];unfold Cu at h ⊢;cases q:t Z a with
   | bad=>rfl
   | exc x s=>rfl
   | ok b l=>
     rw[q] at h;simp only[Ap.bind_ok] at h ⊢;cases b with
     | false=>rfl
     | true=>
       simp only[if_true] at h ⊢;cases m:B Z l with
       | bad=>rfl
       | exc x s=>rfl
       | ok o i=>
         rw[m] at h;simp only[Ap.bind_ok] at h ⊢;cases o with
         | nx j=>exact eF n k j i h
         | ct j=>exact eF n k j i h
         | bk j=>rfl
         | rt d=>rfl
def jq{t:AO S}{B:Ax S}{n:Nat}{Z:Ae}{a:S}(h:Cu S t B n Z a≠.bad):FJ S t B Z a=Cu S t B n Z a:=by
 unfold FJ;have b:∃n,Cu S t B n Z a≠.bad:=⟨n,h⟩;rw[dif_pos b];have i:=eF n b.choose Z a h;have d:=eF b.choose n Z a b.choose_spec;rw[Cm] at d;exact d.symm.trans i
def vP{a:Expr}{b:List Stmt}{t:AO S}{B:Ax S}(d:PassesOwn 'e' X.A X.env X.xe)(i:DT X c a t)(h:BK X c b B):DS X c (.While a b [] pos) (FJ S t B):=
 (ny d i h).imp λD Y H hI26=>by
  obtain⟨Z,b,R,j,w⟩:=hI26;have a:∃n,Cu S t B n Z b≠.bad:=by
   apply Classical.byContradiction;intro h;unfold FJ at w;rw[dif_neg h] at w;exact w
  obtain⟨n,d⟩:=a;rw[jq d] at w;refine{λm o H2=>∃i a,As c H2 o i/\W.ok a H2/\Aa (Cu S t B m i a) (B2 c D o i H2) (CF c),⟨n,Z,b,R,j,w⟩,?_};rintro m o H2 ⟨i,a,R2,h,d⟩;cases m with
  | zero=>exact d.elim
  | succ m=>
    refine{i,a,R2,h,aj (ae.mp d) (λb p s H3 n d=>?_) λx p q H3 n d=>q H3 (n.f0 R2) d};have r:=R2.ext h n;cases b with
    | false=>exact s o H3 n.frm d r
    | true=>
      refine cE ?_;refine{λl h=>∃j a,As c h l j/\W.ok a h/\Aa (Cu S t B m j a) (B2 c D l j h) (CF c),λl h q=>{m,Nat.lt_succ_self m,q},i,p,r,d,aj (ae.mp s) (λr a p=>?_) λx a q=>q};have d:∀b,Aa (Cu S t B m b a) (B2 c D o i H2) (CF c)->Nx c (λl h=>∃j a,As c h l j/\W.ok a h/\Aa (Cu S t B m j a) (B2 c D l j h) (CF c)) o i H3 b a:=
       λb o m H5 i h j=>{b,a,j,h,aj o (λr l q=>q.from (n.frm.trans i)) λx l q=>q}
      cases r with
      | nx b=>exact d b p
      | ct b=>exact d b p
      | bk b=>exact λm H5 i h j=>p m H5 (n.frm.trans i) h j
      | rt d=>exact p
end
def B9(n:Nat)(l:List D):Ae:=l.map Sl.bor++List.replicate (n-l.length) .no
def Ca(n:Nat)(l:List D):Ae:=Sl.hnd::(l.map Sl.bor++List.replicate (n-1-l.length) .no)
def Ic{S:Type}(r:Ap S Fl):Ap S D:=match r with
 | .ok (.rt d) st=>.ok d st
 | .ok (.nx _) st=>.ok .non st
 | .ok _ _=>.bad
 | .exc x st=>.exc x st
 | .bad=>.bad
def Bv(n p:Nat)(B:Ax Unit):List D->Ap Unit D:=λl=>if l.length=p/\p<=n then Ic (B (B9 n l) ()) else .bad
def El{S:Type}(n p:Nat)(B:Ax S):List D->S->Ap S D:=λl st=>if l.length+1=p/\p<=n then Ic (B (Ca n l) st) else .bad
abbrev DQ(K:FG)(H:Hp):Dx W0:={K,H,λ_ _ _=>False,λ_=>False}
abbrev DF{S:Type}(W:Wd S)(K:FG)(H:Hp):Dx W:={K,H,λ_ _ _=>False,λ_=>False}
def dm{n:Nat}{i:Nat}(h:(B9 n l)[i]?=some s):(∃d,s=.bor d/\l[i]?=some d)\/s=.no:=by
 unfold B9 at h;by_cases a:i<l.length
 ·rw[EU (by rw[Ag];exact a),AT] at h
  cases q:l[i]? with
  | none=>rw[q] at h;cases h
  | some d=>rw[q] at h;cases h;exact .inl ⟨d,rfl,rfl⟩
 ·rw[G9 (by rw[Ag];omega),He] at h
  split at h
  ·cases h;exact .inr rfl
  ·cases h
def dn{i:Nat}(h:a[i]?=some v):(B0 N a)[i]?=some (some v):=by
 unfold B0;have b:i<a.length:=(AZ.mp h).1;rw[EU (by rw[Ag];exact b),AT,h];rfl
open H in
def pG{K:FG}{H:Hp}{N:List Str}{l:List D}{f:List V}(a:l.length<=N.length)(h:aa K (λ_=>True) H l f):As (DQ K H) H (B0 N f) (B9 N.length l):=by
 have g:∀b,¬Ow (B0 N f) (B9 N.length l) b:=λb hI27=>by
  obtain⟨i,d,c,_⟩:=hI27;rcases dm c with⟨_,z,_⟩ | z<;>cases z
 refine{?_,λb o e _=>e,λi s l=>?_,λb z=>z.elim,λi j a d e c _ _ _=>?_}
 ·unfold B0 B9
  rw[A8,A8,Ag,Ag,Gy,Gy,h.length]
 ·rcases dm l with⟨d,rfl,a⟩ | rfl
  ·obtain⟨v,e,d⟩:=h.get a
   exact{v,by rw[dn e];rfl,d.mono {λ_ _ z _=>z,λb o _ z=>{{λm=>m,g b,λm=>m},z}}}
  ·trivial
 ·rcases dm c with⟨_,z,_⟩ | z<;>cases z
section
variable{P:Program}{w:World}{K:FG}{mg:Str->Option Value}{base:Heap}
open H in
def Cr.d0{x b:Str}{g:Stmt}{f:Addr}{e:FuncData}{N d:List Str}{k:Nat}{B:Ax Unit}(F:Cr K x b g f e)(S:CQ N d (AI g))(j:∀(c:Value) (A:Around) (a:List Env) (s:Shared) (H:Hp) (E:XK),AQ k (A.deeper (envOfC b (AI g) s.heap.objs.size f c))->
  BK (Cs CX0 P w K mg base N b (AI g) f c A a s H E).nox (DQ K H) (B1 g) B):BS P w K mg base CX0 (k+1) f e d (Ed K (Bv N.length d.length B)):=by
 refine F.ok S (λb H Q E h=>?_) λc A a s H b Q E d h=>?_
 ·obtain⟨l,i,w⟩:=h
  unfold Bv at w;split at w
  ·rename_i b
   rw[<-i.length];exact b.1
  ·exact w.elim
 ·obtain⟨l,i,w⟩:=h
  unfold Bv at w;split at w
  ·rename_i b
   refine{_,j c A a s H E d,B9 N.length l,(),pG 'o' i,trivial,?_};cases q:B (B9 N.length l) () with
   | bad=>rw[q] at w;exact w.elim
   | exc x u=>rw[q] at w;exact w.elim
   | ok h u=>
     rw[q] at w;have fin:∀d v c,F0 (DQ K H) c->Is K (λb=>¬W0.mv b/\H b=none) c d v->(∀v c,BH H c->Is K (λb=>H b=none) c d v->Q v c)->Q v c:=λd v c f z q=>
      q v c (λb o e=>f b o e λm=>m) (z.mono {λ_ _ z _=>z,λb o a z=>⟨a.2,z⟩})
     cases h with
     | rt d=>exact λv c f _ z=>fin d v c f z w
     | nx Z=>exact λf c d _ a=>fin .non .non c (λb o e n=>a.frame b o e n) (Is.non_iff.mpr rfl) w
     | bk Z=>exact w.elim
     | ct Z=>exact w.elim
  ·exact w.elim
open H in
def Cr.dS{Sx:Type}{W:Wd Sx}{x qual:Str}{st:Stmt}{f:Addr}{fd:FuncData}{N ps:List Str}{k:Nat}{B:Ax Sx}(F:Cr K x qual st f fd)(S:CQ N ps (AI st))(hb:∀(cdv:Value) (A:Around) (outer:List Env) (s:Shared) (H:Hp) (E:XK),AQ k (A.deeper (envOfC qual (AI st) s.heap.objs.size f cdv))->
  BK (Cs CX0 P w K mg base N qual (AI st) f cdv A outer s H E).nox (DF W K H) (B1 st) B):BS P w K mg base CX0 (k+1) f fd ps (spS W K (El N.length ps.length B)):=by
 refine F.ok S (λvs H Q E h=>?_) λcdv A outer s H vs Q E hr h=>?_
 ·obtain⟨l,us,st0,rfl,i,ok,w⟩:=h
  unfold El at w;split at w
  ·rename_i hl
   rw[B4,<-i.length];exact hl.1
  ·exact w.elim
 ·obtain⟨l,us,st0,rfl,i,ok,w⟩:=h
  unfold El at w;split at w
  ·rename_i hl
   have no:∀b,¬Ow (B0 N (W.h::us)) (Ca N.length l) b:=λb hI28=>by
    obtain⟨j,d,h1,_⟩:=hI28;unfold Ca at h1;cases j with
    | zero=>cases h1
    | succ j=>
      have h1:(l.map Sl.bor++List.replicate (N.length-1-l.length) .no)[j]?=some (.own d):=by simpa using h1
      rcases dm (n:=N.length-1) h1 with⟨_,z,_⟩ | z<;>cases z
   have R:As (DF W K H) H (B0 N (W.h::us)) (Ca N.length l):=by
    refine{?_,λb o e _=>e,λj s hs=>?_,λb z=>z.elim,λj j' a d e h1 _ h3 _=>(no a ⟨j,d,h1,h3⟩).elim}
    ·unfold B0 Ca
     simp only[A8,B4,Ag,Gy];have:=i.length;omega
    ·unfold Ca at hs
     cases j with
     | zero=>cases hs;exact by rw[dn (v:=W.h) rfl];rfl
     | succ j=>
       have hs:(l.map Sl.bor++List.replicate (N.length-1-l.length) .no)[j]?=some s:=by simpa using hs
       rcases dm (n:=N.length-1) hs with⟨d,rfl,hd⟩ | rfl
       ·obtain⟨v,hv,iv⟩:=i.get hd
        exact{v,by rw[dn (v:=v) (by simpa using hv)];rfl,iv.mono {λ_ _ z _=>z,λb o a z=>{{a,no b,λm=>m},z}}}
       ·trivial
   refine{_,hb cdv A outer s H E hr,Ca N.length l,st0,R,ok,?_};cases q:B (Ca N.length l) st0 with
   | bad=>rw[q] at w;exact w.elim
   | exc x u=>rw[q] at w;exact w.elim
   | ok fl u=>
     rw[q] at w;cases fl with
     | rt d=>exact λv H' f0 ok' z=>w v H' f0 ok' z
     | nx Z=>exact λY' H' fr ok' R'=>w .non H' (λb o e n=>R'.frame b o e n) ok' (Is.non_iff.mpr rfl)
     | bk Z=>exact w.elim
     | ct Z=>exact w.elim
  ·exact w.elim
end
structure Ce(P:Program)(w:World)(K:FG)(mg:Str->Option Value)(base:Heap)(k:Nat)(x:Str)(ps:List Str)(sp:Sp):Prop where
 ex:∃f fd,mg x=some (.ref f)/\keepIn K (.ref f)=true/\F7 K fd ps []/\BS P w K mg base CX0 k f fd ps sp
section
variable{X:Cx}{S:Type}{W:Wd S}{c:Dx W}{g:Gr}{k:Nat}{x:Str}{ps:List Str}{p pos:Pos}{e:Expr}{es:List Expr}
def vQ{G:List D->Ap Unit D}{f:AY S}(C:Ce X.prog X.w X.K X.mg X.base k x ps (Ed c.K G))(m:AQ k X.A)(j:Gl X x)(h:DA X c (e::es) f)(a:autoParam 'u' uD)(i:autoParam 's' uR)(b:autoParam 'i' uR):DE X c g (.Call (.Name x p) (e::es) [] pos) (GI S G f):=by
 obtain⟨n,o,l,d,f,F⟩:=C.ex;exact(cY (E:=E0) F m j l d f .nil da h a i b).imp λY H Q q=>pq q
def vR{G:List D->S->Ap S D}{f:AY S}{i:Nat}{y:Str}{a:Pos}(C:Ce X.prog X.w X.K X.mg X.base k x ps (spS W c.K G))(n:AQ k X.A)(m:Gl X x)(j:PE X (.Name y a) (Bx i))(l:DA X c es f)(b:autoParam 'u' uD)(h:autoParam (starEach (.Name y a::es) X.env=(false,eval (.Name y a) X.env)::starEach es X.env) uR)(d:autoParam 'i' uR):DE X c g (.Call (.Name x p) (.Name y a::es) [] pos) (GJ S G i f):=by
 obtain⟨o,q,i,a,f,F⟩:=C.ex;exact(cY (E:=E0) F n m i a f .nil da (aT j l h) b h d).imp λY H Q q=>pu q
end
section
variable{S:Type}
def bJ{i:Int}:AB c H H' (.int i) (.int i):=Is.int_iff.mpr rfl
def bh{i:Bool}:AB c H H' (.bl i) (.bl i):=Is.bl_iff.mpr rfl
instance iOp(C:Int->Int->Prop)[∀i j,Decidable (C i j)](g:Int->Int->D):D->D->Option D
 | .int i,.int j=>if C i j then some (g i j) else none
 | _,_=>none
def AR(g:Int->Int->D):D->D->Option D
 | .int i,.int j=>some (g i j)
 | _,_=>none
open H in
def pH{C:Int->Int->Prop}[∀i j,Decidable (C i j)]{g:Int->Int->Int}:Bu c (rI C λi j=>.int (g i j)) (iOp C λi j=>.int (g i j)):=by
 intro c a b e H f d Q c a b e q;unfold iOp at e;split at e
 ·rename_i i j
  split at e
  ·rename_i h
   cases e;exact{i,j,Is.int_iff.mp a,Is.int_iff.mp b,h,q _ H Af.refl c bJ}
  ·cases e
 ·cases e
open H in
def pI{g:Int->Int->Int}:Bu c (Ec λi j=>.int (g i j)) (AR λi j=>.int (g i j)):=by
 intro c a b e H f d Q c a b e q;unfold AR at e;split at e
 ·rename_i i j
  cases e;exact{i,j,Is.int_iff.mp a,Is.int_iff.mp b,q _ H Af.refl c bJ}
 ·cases e
open H in
def vS{g:Int->Int->Bool}:Bu c (Ec λi j=>.bl (g i j)) (AR λi j=>.bl (g i j)):=by
 intro c a b e H f d Q c a b e q;unfold AR at e;split at e
 ·rename_i i j
  cases e;exact{i,j,Is.int_iff.mp a,Is.int_iff.mp b,q _ H Af.refl c bh}
 ·cases e
theorem Bu.or(h:Bu c r o)(n:Bu c r' o'):Bu c (λx y H Q=>r x y H Q\/r' x y H Q) (λa b=>(o a b).or (o' a b)):=by
 intro f c j b H i d Q g l m e q;cases a:o f c with
 | some d'=>
   have e:some d'=some d:=by simpa [a] using e
   cases e;exact .inl (h f c j b H i d Q g l m a q)
 | none=>
   have e:o' f c=some d:=by simpa [a] using e
   exact .inr (n f c j b H i d Q g l m e q)
@[reducible]instance (i j:Int):Decidable (F2 i j):=by unfold F2;infer_instance
@[reducible]instance (i j:Int):Decidable (DJ i j):=by unfold DJ;infer_instance
@[reducible]instance (i j:Int):Decidable (HR i j):=by unfold HR;infer_instance
@[reducible]instance (i j:Int):Decidable (Jo i j):=by unfold Jo;infer_instance
def Ba:D->D->Option D
 | .tup l,.int i=>im (BD l i)
 | .lst l,.int i=>im (BD l i)
 | _,_=>none
def jr{K:FG}{A:Addr->Prop}{H:Hp}{l:List D}{a:List V}{i:Int}{d:D}(z:aa K A H l a)(h:BD l i=some d):∃v,BD a i=some v/\Is K A H d v:=by
 unfold BD at h ⊢;rw[<-z.length];cases q:CC l.length i with
 | none=>rw[q] at h;cases h
 | some j=>
   rw[q] at h;exact z.get (i:=j) h
def fU(h:im o=some d):o=some d/\d.imm=true:=by
 cases o with
 | none=>cases h
 | some x=>
   have h:(if x.imm=true then some x else none)=some d:=h;split at h
   ·cases h;exact{rfl,by assumption}
   ·cases h
open H in
def js{K:FG}(n:c.K=K):Bu c (rIx K) Ba:=by
 intro c b e a H f d Q g h j e q;unfold Ba at e;split at e
 ·rename_i l i
  obtain⟨a,b,d,s,z⟩:=Is.tup_sq h;obtain⟨e,m⟩:=fU e;obtain⟨v,f,c⟩:=jr z e;exact .inr (.inl {a,b,i,v,d,Is.int_iff.mp j,n▸s,f,q v H Af.refl g (AB.imm m c)})
 ·rename_i l i
  obtain⟨a,b,d,n,s,z⟩:=Is.lst_iff.mp h;obtain⟨e,m⟩:=fU e;obtain⟨v,f,c⟩:=jr z e;exact .inl {a,b,i,v,d,Is.int_iff.mp j,.of s,f,q v H Af.refl g (AB.imm m c)}
 ·cases e
end
section
variable{X:Cx}{S:Type}{W:Wd S}{c:Dx W}{H H':Hp}{Y:St}{Z:Ae}{st:S}{i:Nat}{d d':D}{a:Addr}{o:HO}
open H in
def jt(h:Z[i]?=some (.own d))(b:Addr):Ow Y (Z.set i (.own d')) b↔Ow Y Z b:=by
 have f:i<Z.length:=(AZ.mp h).1;constructor
 ·rintro ⟨j,e,g,b⟩
  rcases aA g with⟨m,_⟩ | ⟨_,z⟩
  ·subst m;exact⟨j,d,h,b⟩
  ·exact⟨j,e,z,b⟩
 ·rintro ⟨j,e,g,b⟩
  by_cases m:j=i
  ·subst m;exact{j,d',Gx f,b}
  ·exact{j,e,by rw[Ci (Ne.symm m)];exact g,b}
open H in
def As.wr(R:As c H Y Z)(p:Z[i]?=some (.own d))(r:Y[i]?=some (some (.ref a)))(ht:(∀u,o≠.tup u)/\∀y u,o≠.frz y u)(h:A9 (Av c Y Z) (Av c Y Z) H (Ad H a o)->Top c.K (Av c Y Z) (Ad H a o) d' a):As c (Ad H a o) Y (Z.set i (.own d'))/\Be c H Y Z (Ad H a o) Y (Z.set i (.own d')):=by
 have O:i<Z.length:=(AZ.mp p).1;have A:Ow Y Z a:=⟨i,d,p,r⟩;obtain⟨nm,N,o1,M,n1,J⟩:=R.owOk A;have k:A9 (Av c Y Z) (Av c Y Z) H (Ad H a o):=bw (λb u e t=>by
  have l:b≠a:=λz=>by
   subst z;rw[M] at e;cases e;rcases t with⟨w,z⟩ | ⟨y,w,z⟩
   ·exact n1 w z
   ·exact J y w z
  rw[af l];exact e) λb u E e=>{E,by rw[af (λ(z:b=a)=>E.2.1 (z▸A))];exact e}
 have x:Av c Y (Z.set i (.own d'))=Av c Y Z:=by
  funext b;unfold Av;rw[jt (Y:=Y) (d':=d') p b]
 have T:=h k;refine{{by rw[DD];exact R.len,λb u e n=>?_,λj s Q=>?_,λb l=>?_,λj G b e e' B h2 h3 U=>?_},{λb u e n w=>?_,λb u e n w=>(jt p b).mp w}}
 ·have l:b≠a:=λz=>by subst z;rw[show c.H0 b=none from N] at e;cases e
  rw[af l];exact R.frame b u e n
 ·rw[x]
  rcases aA Q with⟨m,z⟩ | ⟨nj,z⟩
  ·subst z m
   obtain⟨b,g,n,f,t⟩:=R.slot j _ p;rw[r] at g;have g:some (V.ref a)=some (V.ref b):=g;cases g;exact{a,by rw[r];rfl,n,f,T}
  ·have q:=R.slot j s z
   cases s with
   | no=>trivial
   | bor e=>obtain⟨v',g,i1⟩:=q;exact{v',g,i1.mono k}
   | own e=>
     obtain⟨b,g,n,f,t⟩:=q;have l:b≠a:=λz'=>by
      subst z';exact nj (R.uniq j i b e d z p (aY g) r)
     exact{b,g,n,f,t.mono k λu z=>by rw[af l];exact z}
   | hnd=>exact q
 ·obtain⟨n,z,u,h',q⟩:=R.avl b l
  have C:b≠a:=λz'=>by
   subst z';obtain⟨b',g,n',_⟩:=R.slot i _ p;rw[r] at g;have g:some (V.ref b)=some (V.ref b'):=g;cases g;exact n'.2 l
  exact{n,z,u,by rw[af C];exact h',q}
 ·have v:∀(j:Nat) (e:D),(Z.set i (.own d'))[j]?=some (.own e)->∃e',Z[j]?=some (.own e'):=λj e B=>by
   rcases aA B with⟨m,_⟩ | ⟨_,z⟩
   ·subst m;exact⟨d,p⟩
   ·exact⟨e,z⟩
  obtain⟨x1,I⟩:=v j e B;obtain⟨x2,P⟩:=v G e' h2;exact R.uniq j G b x1 x2 I P h3 U
 ·have l:b≠a:=λz=>w (z▸A)
  rw[af l];exact e
def Bj(Z:Ae)(i:Nat):Option (List D):=match Z[i]? with
 | some (.own (.lst l))=>if D.immL l=true then some l else none
 | _=>none
def ju(h:Bj Z i=some l):Z[i]?=some (.own (.lst l))/\D.immL l=true:=by
 unfold Bj at h;split at h
 ·split at h
  ·cases h;exact{by assumption,by assumption}
  ·cases h
 ·cases h
def fW(h:Bj Z i=some l):Z[i]?=some (.own (.lst l)):=(ju h).1
def As.lstAt(R:As c H Y Z)(h:Bj Z i=some l):∃a b,Y[i]?=some (some (.ref a))/\H a=some (.lst b)/\aa c.K (Av c Y Z) H l b/\¬W.mv a:=by
 obtain⟨a,e,n,f,b,g,z⟩:=R.slot i _ (fW h);exact{a,b,aY e,g,z,n.1}
def bU(f:W.ok st H)(n:¬W.mv a)(e:H a=some u)(ns:¬CU u:=by (intro s;rcases s with⟨_,e⟩ | ⟨_,_,e⟩<;>cases e)):W.ok st (Ad H a o):=W.stay st H _ f (λb u m e=>by rw[af (λ(z:b=a)=>n (z▸m))];exact e) λb u h s=>by
 rw[af (λ(z:b=a)=>by subst z;rw[e] at h;cases h;exact ns s)];exact h
instance sMt(S:Type)(i:Nat)(o:List D->D->Option (List D))(f:Fn S):Ax S:=λZ st=>match Bj Z i with
 | some l=>(f Z st).bind λd st1=>(Aw (o l d) st1).bind λl' st2=>.ok (.nx (Z.set i (.own (.lst l')))) st2
 | none=>.bad
instance MtD{S:Type}{W:Wd S}(c:Dx W)(r:V->List V->Hp->VK->Prop)(o:List D->D->Option (List D)):Prop:=∀l d l' a vs v H (Q:VK),o l d=some l'->H a=some (.lst vs)->aa c.K 'w' H l vs->Is c.K 'w' H d v->
 (∀us,(D.immL l=true->D.immL l'=true/\aa c.K 'w' H l' us)->Q .non (Ad H a (.lst us)))->r (.ref a) [v] H Q
def vT{x m:Str}{b:String}{e:Expr}{f:Fn S}{j s l u:Pos}{r:V->List V->Hp->VK->Prop}{o:List D->D->Option (List D)}(B:MtR X b r)(A:MtD c r o)(n:Slot "list" m b)(r:typeOf (.builtin b)=pure (.type "method_descriptor"))(y:PE X (.Name x j) (Bx i))(z:DE X c .R e f)(b:c.K=X.K)(h:autoParam (attributeBase (.Name x j) m X.env (eval (.Name x j) X.env)=eval (.Name x j) X.env) uR)(p:autoParam (((backTo l (starEach [e] X.env)).all (λx=>!x.1)&&(backToKw l (keywordEach [] X.env)).all (λx=>x.1.isSome)
  && decide (([e]:List Expr).length+([]:List Keyword).length+(if ([]:List Keyword).isEmpty then 0 else 1)<30))=true) uR)(g:autoParam ((s.endLine == l.line)=true) uR)(v:autoParam (starEach [e] X.env=(false,eval e X.env)::starEach [] X.env) uR)(b:autoParam ((backTo l (starEach [] X.env)).any (·.1)=false) uR)(q:autoParam (swapsWith (.Call (.Attribute (.Name x j) m s) [e] [] l) none u.line X.env=pure false) uR) :
 DS X c (.Expr (.Call (.Attribute (.Name x j) m s) [e] [] l) u) (sMt S i o f):=
 (iA (oB PySem.F.plainAttrs_list n r B y (aT z bg v) h p g v b) q).imp λD Y H hI29=>by
  obtain⟨Z,st,R,h,w⟩:=hI29;unfold sMt at w;cases q:Bj Z i with
  | none=>rw[q] at w;exact w.elim
  | some l=>
    rw[q] at w;obtain⟨a,j,m,r,z,n⟩:=R.lstAt q;refine{.ref a,m,.inl {rfl,j,.of r},Z,st,R,h,aj (ae.mp w) (λd b q v H1 e f u=>?_) λx b q H1 e f=>q H1 (e.f0 R) f};obtain⟨p,e',x⟩:=ar.mp (ae.mp q);have s:=R.ext h e;have g:=e a _ r n;have q:A9 (Av c Y Z) 'w' H1 H1:={λ_ _ z _=>z,λb o a z=>⟨a.1,z⟩};refine A l d p a j v H1 _ e' g (aa.mono q (z.mono (e.keepT h λb a=>⟨a.1,a⟩))) u λus b=>?_
    obtain⟨m',z'⟩:=b (ju (by assumption)).2;obtain⟨R2,b⟩:=s.wr (d':=.lst p) (o:=.lst us) (fW (by assumption)) m {(λu z=>by cases z),(λh u z=>by cases z)} λk=>{us,aq,aa.mono k (aa.ofImm m' z')}
    exact x Y _ (e.frm.trans b) (bU f n g) R2
def Ho(l:List D)(d:D):Option (List D):=if d.imm=true/\l.length<sizeLine then some (l++[d]) else none
def Hr(l:List D)(d:D):Option (List D):=match d with
 | .lst m=>if D.immL m=true/\l.length+m.length<=sizeLine then some (l++m) else none
 | _=>none
open H in
def vU:MtD c Hh Ho:=by
 intro l d b a f v H Q e g z b q;unfold Ho at e;split at e
 ·rename_i h
  cases e;refine{a,f,v,rfl,rfl,g,by rw[<-z.length];exact h.2,q _ λm=>{bI m (by simp[D.immL,h.1]),z.append (aa.one b)}}
 ·cases e
open H in
def vV:MtD c Jv Hr:=by
 intro l d b a m v H Q e l z j q;unfold Hr at e;split at e
 ·rename_i n
  split at e
  ·rename_i h
   cases e;obtain⟨b,us,g,p,n,f⟩:=Is.lst_iff.mp j;subst g;refine{a,b,m,us,rfl,rfl,l,n,by rw[<-z.length,<-f.length];exact h.2,q _ λm=>{bI m h.1,z.append f}}
  ·cases e
 ·cases e
end
def Ie(N:List Str)(osc:Scope)(N':List Str)(ixs:List (Option Nat))(scope:Scope):Bool:=
 decide (scope.kind=.function)&&scope.names.all (λy=>decide (y.2≠.cell))&&scope.names.all (λy=>decide (y.2=.local->scope.names.lookup y.1=some .local))&&decide (ixs.length=N'.length) &&
 scope.names.all (λy=>decide (y.2=.free->osc.names.lookup y.1=some .cell\/osc.names.lookup y.1=some .free)) &&
 (List.range N'.length).all (λj=>match N'[j]?,ixs[j]? with
  | some y,some (some i)=>decide (N[i]?=some y)&&decide (scope.names.lookup y=some .free)
  | _,_=>true)
def Ie.scope{X:Cx}{N:List Str}{osc:Scope}{a:List Str}{ixs:List (Option Nat)}{scope:Scope}(h:Ie N osc a ixs scope=true)(g:autoParam (X.N=N) uR)(m:autoParam (X.env.scope=osc) uR):E2 X a ixs scope:=by
 unfold Ie at h;simp only[FW,decide_eq_true_eq,List.all_eq_true] at h;obtain⟨⟨⟨⟨⟨d,i⟩,b⟩,j⟩,l⟩,f⟩:=h;refine{d,i,b,j,λy c e=>by rw[m];exact l y c e,λj i y b d=>?_};have c:j<a.length:=(AZ.mp b).1;have q:=f j (EF.mpr c);rw[b,d] at q;simp only[FW,decide_eq_true_eq] at q;exact{by rw[g];exact q.1,q.2}
end L2
namespace PySem
open H in
def pJ(l:Addr)(a:Array Value)(n:Nat)(b:Option Addr)(c:Array (Option Value)) :
 Meets (Builtin.«enumerate.__new__» {[.type "enumerate",.ref l],[]}) (λ_ R s=>s.heap.get? l=some { cls:=.type "tuple",dict:=b,data:=.seq a n,slots:=c }/\
  R (.ok (.ret (.ref (s.heap.push { cls:=.type "tuple_iterator",data:=.fields #[.ref l,.int 0 0] }).objs.size)))
    { s with heap:=(s.heap.push { cls:=.type "tuple_iterator",data:=.fields #[.ref l,.int 0 0] }).push { cls:=.type "enumerate",data:=.fields #[.none,.bool false,.ref s.heap.objs.size,rawInt 0,.none,.none] } }):=
 .of_wp λprog w A R s h=>by
  obtain⟨j,g,d,i,f⟩:=s;obtain⟨b,h⟩:=h;have c:=sub_enumerate;have e:Heap.IsTuple (Shared.heap ⟨j,g,d,i,f⟩) l a:={_,b,rfl,n,rfl}
  wp_walk using wpAny_loadPart' b
  refine wpAny_stack_any λa=>An ?_
  split
  ·rename_i c _ _ _ _ _
   cases (c == Value.type "enumerate")<;>(wp_walk using wpAny_loadPart' b,wpAny_pyIter_tuple e;exact{_,rfl,h})
  ·(wp_walk using wpAny_loadPart' b,wpAny_pyIter_tuple e;exact{_,rfl,h})
def pK(g:s.heap.IsTuple l items)(h:∀a,IsEnum a (s.heap.objs.size+1) s.heap.objs.size 0 .none->a.IsTupleIter s.heap.objs.size l 0->(∀b o,s.heap.get? b=some o->a.get? b=some o)->Q (.ref (s.heap.objs.size+1)) { s with heap:=a }) :
 wpAny 'r' A (call (.type "enumerate") [.ref l]) Q E s:=by
 obtain⟨⟨c,e,j,f⟩,i,d,n,a⟩:=g;have d:c=.type "tuple":=d;have a:j=.seq items n:=a;subst d a;refine callType_new F.called_enumerate 'z' (F.typeCall_enumerate_1 _) (F.newCall_enumerate_1 _) (λa=>F.args_object_init_2 a _) F.entry_enumerate_new (pJ l items n e f) {i,?_};generalize a:s.heap.push { cls:=.type "tuple_iterator",data:=.fields #[.ref l,.int 0 0] }=g;have d:g.objs.size=s.heap.objs.size+1:=by rw[<-a];exact DP ..
 have c:IsEnum (g.push { cls:=.type "enumerate",data:=.fields #[.none,.bool false,.ref s.heap.objs.size,rawInt 0,.none,.none] }) (s.heap.objs.size+1) s.heap.objs.size 0 .none:=by
  have:=Bi g (o:={ cls:=.type "enumerate",data:=.fields #[.none,.bool false,.ref s.heap.objs.size,rawInt 0,.none,.none] }) rfl;rw[d] at this;exact this
 have e:g.get? s.heap.objs.size=some { cls:=.type "tuple_iterator",data:=.fields #[.ref l,.int 0 0] }:=by rw[<-a];exact Bi _ rfl
 show _/\_;rw[d];exact{{_,c,rfl},h _ c {_,AM _ e,rfl,rfl} λb o x=>AM _ (by rw[<-a];exact AM _ x)}
open H in
def jv{i:Nat}(Cn:s.heap.IsTupleIter it l i)(e:s.heap.IsTuple l items)(f:items[i]?=some x)(h:∀a,a.IsTupleIter it l (i+1)->Heap.SameBut it s.heap a->Q x { s with heap:=a }):wpAny 'r' A (Builtin.SmallTypes.nextOf (.ref it)) Q E s:=by
 obtain⟨o,b,g,a⟩:=id Cn;obtain⟨j,c,_,nl,d⟩:=e;unfold Builtin.SmallTypes.nextOf;refine Ac (wpAny_callSpecial?_slot (name:=Str.ofString "__next__") Cn.typeIs F.slot_tuple_iterator_next (Ev F.slot_tuple_iterator_next Cn.typeIs F.entry_tuple_iterator_next ?_ (F.args_tuple_iterator_next_1 _)));show wpAny _ _ (field (.ref it) 0 >>= λ_=>_) _ _ s;refine Ac (B3 b a (x:=.ref l) rfl ?_);show wpAny _ _ (if (Value.ref l == Value.none)=true then _ else _) _ _ s;have e:¬(Value.ref l == Value.none)=true:=BA;rw[if_neg e];refine Ac (m:=field (.ref it) 1) (B3 b a (x:=.int i 0) rfl ?_);refine Ac (m:=seqItems? (.ref l)) (Ew c d ?_);simp only[Dz,f];refine Ac (wpAny_setField b a 'd' (An {x,rfl,An (h _ ?_ (Heap.SameBut.update ..))}));refine{_,Heap.get?_update_self _ b (Obj.isFreed_of_fields (Obj.data_mapFields a _)),(Obj.cls_mapFields ..).trans g,?_};rw[Obj.data_mapFields a];simp[rawInt]
open H in
def jw{i:Nat}(f:A.handled=none)(Cn:s.heap.IsTupleIter it l i)(h:s.heap.IsTuple l items)(g:items[i]?=none)(j:∀b e,Heap.ExtBut it s.heap b->(∃o,b.get? e=some o/\o.cls=.type "StopIteration")->E (.ref e) { s with heap:=b }):wpAny 'r' A (Builtin.SmallTypes.nextOf (.ref it)) Q E s:=by
 obtain⟨o,b,e,c⟩:=id Cn;obtain⟨n,d,_,nl,e⟩:=h;unfold Builtin.SmallTypes.nextOf;refine Ac (wpAny_callSpecial?_slot (name:=Str.ofString "__next__") Cn.typeIs F.slot_tuple_iterator_next (Ev F.slot_tuple_iterator_next Cn.typeIs F.entry_tuple_iterator_next ?_ (F.args_tuple_iterator_next_1 _)));show wpAny _ _ (field (.ref it) 0 >>= λ_=>_) _ _ s;refine Ac (B3 b c (x:=.ref l) rfl ?_);show wpAny _ _ (if (Value.ref l == Value.none)=true then _ else _) _ _ s;have h:¬(Value.ref l == Value.none)=true:=BA;rw[if_neg h];refine Ac (m:=field (.ref it) 1) (B3 b c (x:=.int i 0) rfl ?_);refine Ac (m:=seqItems? (.ref l)) (Ew d e ?_);simp only[Dz,g];refine Ac (aW (Ac (wpAny_setField b c 'd' ?_)));refine Ac (m:=newExc (.type "StopIteration") []) ?_;simp only[newExc,newTuple];refine Ac (wpAny_newObj_type ?_ (by size_fits));refine Ac (m:=firstArgMember _ _) (wpAny_of_eq (a:=Value.none) (by first | rfl | (simp only[firstArgMember];rfl)) ?_);refine wpAny_newObj_type ?_ (by size_fits);simp only[raiseNew];refine Ac (wpAny_handled ?_);first | rw[show A.in1.handled=none from f] | rw[f]
 exact Ac (An (wpAny_throw (j _ _ (((Heap.SameBut.update ..).extBut.push _).push _) {_,Bi _ rfl,rfl})))
def pL{e l:Addr}{i:Nat}{x r:Value}{T:Heap->Prop}{Q:Value->Shared->Prop}(u:IsEnum s.heap e l i r)(B:e≠l)(J:∀h a,T h->(∀o,h.get? l=some o->a.get? l=some o)->T a)(f:∀b:Value->Shared->Prop,(∀a,T a->Heap.SameBut l s.heap a->b x { s with heap:=a })->wpAny 'r' A (Builtin.SmallTypes.nextOf (.ref l)) b E s)(M:∀a,IsEnumOut a e l ((i:Int)+1) x s.heap.objs.size->T a->a.get? s.heap.objs.size=some { cls:=.type "tuple",data:=.seq #[.int i s.toks,x] }->a.objs.size=s.heap.objs.size+1->
  (∀b o,b≠e->b≠l->s.heap.get? b=some o->a.get? b=some o)->Q (.ref s.heap.objs.size) { s with heap:=a,toks:=s.toks+1 }) :
 wpAny 'r' A (Builtin.«enumerate.__next__» {[.ref e],[]}) (λfin s'=>∃v,fin=.done (.ret v)/\Q v s') E s:=by
 obtain⟨v,g,d,C,I⟩:=s;refine Ac (m:=field (.ref e) 2) (B3 u rfl (x:=.ref l) rfl ?_);refine Ac (f _ λc E a=>?_);have a:Heap.SameBut l v c:=a;have f:IsEnum c e l i r:=(a.2 e B).trans u;show wpAny _ _ (field (.ref e) 3 >>= λ_=>_) _ _ ⟨c,g,d,C,I⟩;refine Ac (B3 f rfl (x:=rawInt i) rfl ?_);refine Ac (m:=field (.ref e) 4) (B3 f rfl (x:=.none) rfl ?_);refine Ac (m:=mkInt i) (wpAny_mkInt ?_);refine Ac (m:=setField (.ref e) 3 (rawInt ((i:Int)+1))) (Eu f 'd' λp j h=>?_);have h:Heap.SameBut e c p:=h;have j:IsEnum p e l ((i:Int)+1) r:=j;refine Ac (m:=setField (.ref e) 4 .none) (Eu j 'd' λn q f=>?_);have f:Heap.SameBut e p n:=f;have q:IsEnum n e l ((i:Int)+1) r:=q;refine Ac (m:=newTuple [.int i C,x]) (wpAny_newTuple ?_);have j:IsEnum (n.push { cls:=.type "tuple",data:=.seq #[.int i C,x] }) e l ((i:Int)+1) r:=AM _ q;generalize p:n.push { cls:=.type "tuple",data:=.seq #[.int i C,x] }=h₄ at j;have A:n.objs.size=v.objs.size:=by rw[f.1,h.1,a.1]
 have G:v.objs.size≠e:=Nat.ne_of_gt (Heap.lt_size u);have y:h₄.get? v.objs.size=some { cls:=.type "tuple",data:=.seq #[.int i C,x] }:=by rw[<-p,<-A];exact Bi _ rfl
 have z:h₄.objs.size=v.objs.size+1:=by rw[<-p,DP,A]
 have s:∀b o,b≠e->c.get? b=some o->h₄.get? b=some o:=λb o u q=>by
  rw[<-p];exact AM _ (f.extBut b o u (h.extBut b o u q))
 show wpAny _ _ (Builtin.SmallTypes.ownedTupleIsFree (.ref e) >>= λ_=>_) _ _ {h₄,g,d,C+1,I};rw[A];refine Ac ?_;unfold Builtin.SmallTypes.ownedTupleIsFree;refine Ac (B3 j rfl (x:=.none) rfl (An ?_));simp only[if_true];refine Ac (aW (Ac (B3 j rfl (x:=r) rfl ?_)));refine Ac (Eu j 'd' λn f h=>?_);have h:Heap.SameBut e h₄ n:=h;have f:IsEnum n e l ((i:Int)+1) x:=f;show wpAny _ _ (Builtin.SmallTypes.ownedTupleHandOut (.ref e) (.ref v.objs.size) >>= λ_=>_) _ _ {n,g,d,C+1,I};refine Ac ?_;unfold Builtin.SmallTypes.ownedTupleHandOut;refine Ac (Eu f 'd' λp j d=>?_);have d:Heap.SameBut e n p:=d;have j:IsEnumOut p e l ((i:Int)+1) x v.objs.size:=j;refine Eu j 'd' λg n f=>?_
 have f:Heap.SameBut e p g:=f;have n:IsEnumOut g e l ((i:Int)+1) x v.objs.size:=n;have i:∀b o,b≠e->h₄.get? b=some o->g.get? b=some o:=λb o u q=>f.extBut b o u (d.extBut b o u (h.extBut b o u q))
 refine Ac (wpAny_letGo (An {_,rfl,M g n (J c g E λo q=>i _ o (Ne.symm B) (s _ o (Ne.symm B) q)) (i _ _ G y) (by rw[f.1,d.1,h.1,z]) λb o u c q=>i b o u (s b o u (a.extBut b o c q))}))
end PySem
namespace L2
def Ab.turnedT{h:List Addr}{p:Addr}{vs:List V}{c:List Value}{t':Nat}(I:Ab X j Y H s)(f:∀b∈h,Da X j H b)(k:∀b o,b∉h->s.heap.get? b=some o->h'.get? b=some o)(l:s.heap.objs.size<=p)(x:Aq vs c)(v:vs.length<=sizeLine)(q:IsTup h' p c.toArray)(i:NoD h' p):Ab X j Y (Ad H p (.tup vs)) { s with heap:=h',toks:=t' }:=by
 have d:H p=none:=I.hok.fresh l;have g:∀b u,H b=some u->b∉h:=λb u e z=>by rw[(f b z).1] at e;cases e
 have a:∀b u,H b=some u->Ad H p (.tup vs) b=some u:=λb u e=>by rw[af (au e d)];exact e
 refine I.step (g':=s.gens) (d':=s.drawn) (t':=t') (ch:=h) (λb d=>{(f b d).2.2.2.1,(f b d).2.1,(f b d).2.2.2.2.1,(f b d).2.2.2.2.2}) (λb o _ _ h e _=>k b o h e) (λb o _ _ h e _=>{o.slots,k b o h e})
  (λb o _ e n=>by rw[af (Bk (AW (Heap.lt_size e) l))];exact n) (λb o h e=>{o,k b o h e}) (λb n e=>a b _ e) (λb o u e=>a b _ e) (λb h e=>{#[],by rw[a b _ e];simp}) (λm s=>?_) (λb u e=>?_) I.bare
 ·obtain⟨o,es,h,l,r⟩:=s
  exact{o,es,h,k _ o (λz=>(f _ z).2.1 rfl) l,r}
 ·by_cases d:b=p
  ·subst d
   rw[aq] at e;cases e;exact⟨v,c,x,q,i⟩
  ·rw[af d] at e
   refine(I.hok b u e).stay (λd v i q=>k d v ?_ q) (λd q=>a d _ q) λd n q=>a d _ q
   rcases i with z | z
   ·rw[z];exact g b u e
   ·exact g d _ z
def Ab.turnedF{c:List Addr}{t':Nat}(I:Ab X g Y H s)(a:∀b∈c,Da X g H b)(k:∀b o,b∉c->s.heap.get? b=some o->h'.get? b=some o):Ab X g Y H { s with heap:=h',toks:=t' }:=by
 have f:∀b u,H b=some u->b∉c:=λb u e z=>by rw[(a b z).1] at e;cases e
 refine I.step (g':=s.gens) (d':=s.drawn) (t':=t') (ch:=c) (λb d=>{(a b d).2.2.2.1,(a b d).2.1,(a b d).2.2.2.2.1,(a b d).2.2.2.2.2}) (λb o _ _ c e _=>k b o c e) (λb o _ _ c e _=>{o.slots,k b o c e})
  (λb o _ e n=>n) (λb o c e=>{o,k b o c e}) (λb h e=>e) (λb o u e=>e) (λb c e=>{#[],by rw[e];simp}) (λm c=>?_) (λb u e=>?_) I.bare
 ·obtain⟨o,es,d,i,r⟩:=c
  exact{o,es,d,k _ o (λz=>(a _ z).2.1 rfl) i,r}
 ·refine(I.hok b u e).stay (λd v a q=>k d v ?_ q) (λd q=>q) λd h q=>q
  rcases a with z | z
  ·rw[z];exact f b u e
  ·exact f d _ z
def GL(b:Nat)(Sq:Hp->List V->Prop):It:=
 {λi H=>∃xs x,Sq H xs/\xs[i]?=some x,λi H v H'=>∃p x,H p=none/\v=.ref p/\H'=Ad H p (.tup [.int (i+b:Nat),x])/\∀xs,Sq H xs->xs[i]?=some x,λi H=>∃xs,Sq H xs/\xs.length<=i}
abbrev Ien(Sq:Hp->List V->Prop):It:=GL 0 Sq
structure Ig(P:Program)(w:World)(K:FG)(Sq:Hp->List V->Prop)(T:Nat->Heap->Prop)(it:Addr):Prop where
 obj:∀{i h},T i h->∃o,h.get? it=some o/\∀v,o.data=.cell v->False
 keep:∀{i h h'},T i h->(∀o,h.get? it=some o->h'.get? it=some o)->T i h'
 inj:∀{X A3 Y H s xs ys},X.K=K->Ab X A3 Y H s->Sq H xs->Sq H ys->xs=ys
 item:∀{X A3 Y H s i xs x},X.K=K->Ab X A3 Y H s->Sq H xs->xs[i]?=some x->T i s.heap->∃u,Aj x u/\∀(A:Around) (E Q:Value->Shared->Prop),(∀h',T (i+1) h'->Heap.SameBut it s.heap h'->Q u { s with heap:=h' })->wpAny (model P w) A (Builtin.SmallTypes.nextOf (.ref it)) Q E s
 done:∀{X A3 Y H s i xs},X.K=K->Ab X A3 Y H s->Sq H xs->xs.length<=i->T i s.heap->∀(A:Around) (E Q:Value->Shared->Prop),A.handled=none->(∀h' e,Heap.ExtBut it s.heap h'->(∃o,h'.get? e=some o/\o.cls=.type "StopIteration")->E (.ref e) { s with heap:=h' })->wpAny (model P w) A (Builtin.SmallTypes.nextOf (.ref it)) Q E s
open H in
def jx{P:Program}{w:World}{K:FG}{a:List Expr}{x1}{pos:Pos}{b:Nat}{c:Hp->List V->Prop}{T:Nat->Heap->Prop}{e j:Addr}(N:Ig P w K c T j):EY P w K (.Tuple a x1 pos) (GL b c) [e,j] e (λi h=>e≠j/\(∃d,IsEnum h e j (i+b:Nat) d)/\T i h) where
 mem:=by simp
 obj:=λi h l c f=>by
  obtain⟨a,⟨d,g⟩,n⟩:=l;rcases AK.mp f with z | f
  ·subst z
   exact{_,g,λv z=>by
    have z':Data.fields _=Data.cell v:=z;cases z'}
  ·rw[Bz.mp f]
   exact(N.obj n).imp λo z=>⟨z.1,z.2⟩
 keep:=λi h A l k=>by
  obtain⟨a,⟨d,g⟩,n⟩:=l;exact{a,{d,k e 'd' _ g},N.keep n λo q=>k j 'd' o q}
 item:=by
  intro X Q R J hc i A3 s Y H E I G l U;subst Q R;obtain⟨xs,x,C,B⟩:=U;obtain⟨a,⟨d,g⟩,n⟩:=l;obtain⟨u,ru,r⟩:=N.item J I C B n;have v:s.TypeIs (.ref e) "enumerate":={_,g,rfl};unfold pyNext;refine Ac (wpAny_attempt (wpAny_callSpecial?_slot (name:=Str.ofString "__next__") v F.slot_enumerate_next (Ev F.slot_enumerate_next v F.entry_enumerate_next (pL (T:=T (i+1)) g a (λh A t q=>N.keep t q) (λy c=>r _ _ _ c) λA M W Z r kk=>An ?_) (F.args_enumerate_next_1 _))));refine{_,rfl,wpAny_letOwnedTupleGo_enum (s:={ s with heap:=A,toks:=s.toks+1 }) M λr P c=>?_};have c:Heap.SameBut e A r:=c;have O:s.heap.objs.size≠e:=Nat.ne_of_gt (Heap.lt_size g);have k2:∀b o,b∉[e,j]->s.heap.get? b=some o->r.get? b=some o:=λb o f q=>by
   have y:b≠e:=λz=>f (by simp[z])
   have h3:b≠j:=λz=>f (by simp[z])
   exact c.extBut b o y (kk b o y h3 q)
  have tt:IsTup r s.heap.objs.size [Value.int (i+b:Nat) s.toks,u].toArray/\NoD r s.heap.objs.size:={{_,c.extBut _ _ O Z,rfl,_,rfl},{_,c.extBut _ _ O Z,rfl}};have nn:∀b∈[e,j],b≠s.heap.objs.size:=λb f z=>by
   obtain⟨o1,r,_⟩:=N.obj n;rcases AK.mp f with y | y
   ·exact O (by rw[<-z,y])
   ·rw[z] at y
    rw[<-Bz.mp y] at r;exact absurd (Heap.lt_size r) (Dj _)
  refine{.ref s.heap.objs.size,_,I.turnedT (p:=s.heap.objs.size) (vs:=[.int (i+b:Nat),x]) G k2 (Am _) (.cons {_,rfl} (.cons ru .nil)) (by show 2<=sizeLine;decide) tt.1 tt.2,rfl,{_,x,I.hok.fresh (Am _),rfl,rfl,λy r=>by rw[N.inj J I r C];exact B},{a,{u,?_},?_},λb f=>?_}
  ·have:((i+1+b:Nat):Int)=((i+b:Nat):Int)+1:=by omega
   rw[this];exact P
  ·exact N.keep W λo q=>c.extBut _ _ (Ne.symm a) q
  ·rw[af (nn b f)];exact(G b f).1
 done:=by
  intro X Q R J hc i A3 s Y H E I G l U;subst Q R;obtain⟨xs,C,B⟩:=U;obtain⟨a,⟨d,g⟩,n⟩:=l;have v:s.TypeIs (.ref e) "enumerate":={_,g,rfl};unfold pyNext;refine Ac (wpAny_attempt (wpAny_callSpecial?_slot (name:=Str.ofString "__next__") v F.slot_enumerate_next (Ev F.slot_enumerate_next v F.entry_enumerate_next ?_ (F.args_enumerate_next_1 _))));refine Ac (m:=field (.ref e) 2) (B3 g rfl (x:=.ref j) rfl ?_);refine Ac (N.done J I C B n _ _ _ (I.ok.hd hc) λA x d c=>?_);obtain⟨o,M,a⟩:=c;refine Ac (wpAny_isInstance (T:="StopIteration") (b:=true) ⟨o,M,a⟩ isSubtype_stop (An {rfl,I.turnedF G λb o f q=>d b o (λz=>f (by simp[z])) q}))
 self:=λ_ _ _ _ _ l h=>let ⟨_,⟨_,g⟩,_⟩:=l;wpAny_pyIter_enum g h
def pM{P:Program}{w:World}{K:FG}(a b:Addr):Ig P w K (λH j=>AN K H a j) (λi h=>h.IsTupleIter b a i) b where
 obj:=λ⟨o,a,_,d⟩=>{o,a,λv z=>by rw[d] at z;cases z}
 keep:=λt q=>t.at q
 inj:=λa I b d=>I.tuple_inj (a▸b) (a▸d)
 item:=λa I c f e=>by
  obtain⟨d,b,p,_⟩:=I.tuple (a▸c);obtain⟨u,g,i⟩:=b.get f;exact{u,i,λA E Q l=>jv e p (by simpa using g) l}
 done:=λa I c f e A E Q g h=>by
  obtain⟨d,b,p,_⟩:=I.tuple (a▸c);have d:=b.length;exact jw g e p (by simp;omega) h
open H in
def pN{P:Program}{w:World}{K:FG}{b:List Expr}{x1}{pos:Pos}(a e c:Addr):EY P w K (.Tuple b x1 pos) (Ien λH d=>AN K H a d) [e,c] e (λi h=>e≠c/\(∃b,IsEnum h e c i b)/\h.IsTupleIter c a i):=jx (pM a c)
section
variable{x1:Nat}
def KB(K:FG)(ta:TA):TI:=λY H R=>ta Y H λvs H1=>∃a xs,vs=[.ref a]/\AN K H1 a xs/\R (Ien λH xs=>AN K H a xs) H1
def pO(c:Gl X "enumerate")(d:X.mg "enumerate" = none)(b:PA X [a] ta)(e:autoParam (starEach [a] X.env=[(false,eval a X.env)]) uR):PI X (.Tuple elts x1 tpos) (.Call (.Name "enumerate" p) [a] [] pos) (KB X.K ta):=by
 intro a s Y H R I h;refine Call_ (cc I c d boot_enumerate (PyProof.Rows.callWith_type1 (ai (b pos a s Y H _ I h) λus a hI112=>?_) e rfl));obtain⟨c,H1,I1,b,d⟩:=hI112;obtain⟨l,e,rfl,c,q⟩:=d;cases b with
 | cons r d=>
   cases d;cases r;obtain⟨b,e,f,g⟩:=I1.tuple c;refine pK (show a.heap.IsTuple l b.toArray from f) λc d e b=>?_
   refine wpAny_pyIter_enum (s:={ a with heap:=c }) d ?_;refine{a.heap.objs.size+1,[a.heap.objs.size+1,a.heap.objs.size],_,_,H1,rfl,I1.kept (t':=a.toks) b,pN l _ _,{Nat.succ_ne_self _,{_,d},e},λb c=>?_,q};have c:a.heap.objs.size<=b:=by
    rcases AK.mp c with z | z
    ·rw[z];exact Ff _
    ·have z:b=a.heap.objs.size:=by simpa using z
     exact BY z.symm
   exact I1.fpOk c (I1.hok.fresh c)
variable{S:Type}
def Em(b:Nat)(l:List D):List D:=(l.zipIdx b).map λp=>.tup [.int p.2,p.1]
def fX{b:Nat}{l:List D}{i:Nat}{d:D}(h:(Em b l)[i]?=some d):∃x,l[i]?=some x/\d=.tup [.int (i+b:Nat),x]:=by
 unfold Em at h;rw[AT,List.getElem?_zipIdx] at h;cases q:l[i]? with
 | none=>rw[q] at h;cases h
 | some x=>rw[q] at h;cases h;exact{x,rfl,by rw[Cm]}
def fY(b:Nat)(l:List D):(Em b l).length=l.length:=by unfold Em;rw[Ag,List.length_zipIdx]
abbrev Hs(l:List D):List D:=Em 0 l
def Ih:List D->Option (List D)
 | [.tup l]=>if D.immL l=true then some (Hs l) else none
 | _=>none
def pP{i:Nat}(h:(Hs l)[i]?=some d):∃x,l[i]?=some x/\d=.tup [.int i,x]:=fX h
def pQ(l:List D):(Hs l).length=l.length:=fY 0 l
def fZ{b:Nat}{Y:St}{Z:Ae}{H1:Hp}{l:List D}{e:List V}{a:Hp->List V->Prop}(s0:∀(f:Addr->Prop) (d:Hp),A9 (Av c Y Z) f H1 d->a d e)(i:aa c.K (Av c Y Z) H1 l e):Hm c Y Z H1 (GL b a) (Em b l):=by
 intro g d n m H2 o k R2 h j;have f:a H2 e:=s0 _ _ k;have h:aa c.K (Av g n m) H2 l e:=i.mono k;refine{λd l=>?_,λa=>{e,f,by rw[fY] at a;rw[<-h.length];exact a}};obtain⟨y,d,rfl⟩:=fX l;obtain⟨g,c,i⟩:=h.get d;refine{⟨e,g,f,c⟩,?_};rintro x H3 ⟨h,l,a,rfl,rfl,d⟩;have:=d e f;rw[c] at this;cases this;have d:BH H2 (Ad H2 h (.tup [.int (j+b:Nat),g])):=λb o c=>by rw[af (au c a)];exact c
 refine{d,Is.tup aq (aa.cons.mpr {_,_,rfl,Is.int_iff.mpr rfl,aa.one ?_})};exact i.mono (bw (λb o c _=>d b o c) λb o a c=>{a,d b o c})
open H in
def vW(h:c.K=X.K)(d:Gl X "enumerate")(g:X.mg "enumerate" = none)(b:DA X c [a] f)(e:autoParam (starEach [a] X.env=[(false,eval a X.env)]) uR):DI X c (.Tuple elts x1 tpos) (.Call (.Name "enumerate" p) [a] [] pos) (FI S Ih f):=
 (pO d g b e).imp λY H R hI30=>by
  obtain⟨Z,e,b,d,w⟩:=hI30;refine{Z,e,b,d,aj (ae.mp w) (λl d q b H1 e f z=>?_) λx d q=>q};obtain⟨m,b,q⟩:=ar.mp q;unfold Ih at b;split at b
  ·rename_i l
   split at b
   ·rename_i im
    cases b;obtain⟨v,r,g,m,j⟩:=aa.cons.mp z;obtain⟨a,d,l,s0,i⟩:=Is.tup_iff.mp m;have s:AN c.K H1 a d:=.of s0;rw[aa.nil.mp j,l] at g;exact{a,d,g,h▸s,q _ H1 e f (fZ (λc g k=>by rw[<-h];exact .of (k.tup a d s0)) (aa.ofImm im i))}
   ·cases b
  ·cases b
end
def dq{a:List Bool}:(List.range a.length).all (λi=>a.getD i false)=a.all id:=by
 apply Bool.eq_iff_iff.mpr;simp only[List.all_eq_true,EF,id];constructor
 ·intro h b c
  obtain⟨i,a,e⟩:=List.mem_iff_getElem.mp c;have:=h i a;rw[Gu,AU a] at this;rw[<-e];exact this
 ·intro h i a
  rw[Gu,AU a];exact h _ (List.getElem_mem a)
def pR{a:List Bool}:(List.range a.length).any (λi=>a.getD i false)=a.any id:=by
 apply Bool.eq_iff_iff.mpr;simp only[List.any_eq_true,EF,id];constructor
 ·rintro ⟨i,a,h⟩
  rw[Gu,AU a] at h;exact{_,List.getElem_mem a,h}
 ·rintro ⟨b,c,h⟩
  obtain⟨i,a,e⟩:=List.mem_iff_getElem.mp c;refine{i,a,?_};rw[Gu,AU a,e];exact h
def jy{b:List Bool}{a:List Value}(r:Aq (b.map V.bl) a){i:Nat}{v:Value}(h:a.toArray[i]?=some v):v=.bool (b.getD i false):=by
 have c:i<a.length:=by
  have:=(Array.getElem?_eq_some_iff.mp h).1;simpa using this
 have d:=r.length;rw[Ag] at d;have c:i<b.length:=by omega
 obtain⟨u,d,e⟩:=r.get (i:=i) (x:=.bl b[i]) (by rw[AT,AU c];rfl);have:a[i]?=some v:=by simpa using h
 rw[d] at this;cases this;rw[Gu,AU c];exact e
def vX(i:X.calm=true):Co X (.builtin "all") (λg H Q=>∃(a:Addr) (b:List Bool),g=[.ref a]/\AV X.K H a (b.map V.bl)/\Q (.bl (b.all id)) H):=by
 intro c s Y H g us Q I r h;obtain⟨a,b,rfl,d,q⟩:=h;obtain⟨u,rfl,e⟩:=bq r;cases e;obtain⟨c,f,p,j⟩:=I.list d;have h:X.A.in1.handled=none:=I.ok.hd i;have d:a<s.heap.objs.size:=by obtain⟨o,e,_⟩:=p.isList;exact Heap.lt_size e
 refine call_all_walk (wpAny_pyIter_list p.isList {_,_,_,_,_,_,λi=>b.getD i false,rfl,Walks.list h s.heap.objs.size a (Bk d) c.toArray,{{_,Bi _ rfl,rfl,rfl},p.isList.push _},?_,?_})
 ·intro i v j l s' h a
  rw[jy f h];exact D6 a
 ·intro l h j
  have e:(List.range c.toArray.size).all (λi=>b.getD i false)=b.all id:=by
   have a:=f.length;rw[Ag] at a;rw[A6,<-a,dq]
  rw[e];refine{.bl _,H,?_,rfl,q};refine I.kept (t':=h) λb o e=>j b o (λz=>?_) (AM _ e)
  have z:b=s.heap.objs.size:=by simpa using z
  have d:=Heap.lt_size e;rw[z] at d;exact Dj _ d
def vY(i:X.calm=true):Co X (.builtin "any") (λg H Q=>∃(a:Addr) (b:List Bool),g=[.ref a]/\AV X.K H a (b.map V.bl)/\Q (.bl (b.any id)) H):=by
 intro c s Y H g us Q I r h;obtain⟨a,b,rfl,d,q⟩:=h;obtain⟨u,rfl,e⟩:=bq r;cases e;obtain⟨c,f,p,j⟩:=I.list d;have h:X.A.in1.handled=none:=I.ok.hd i;have d:a<s.heap.objs.size:=by obtain⟨o,e,_⟩:=p.isList;exact Heap.lt_size e
 refine call_any_walk (wpAny_pyIter_list p.isList {_,_,_,_,_,_,λi=>b.getD i false,rfl,Walks.list h s.heap.objs.size a (Bk d) c.toArray,{{_,Bi _ rfl,rfl,rfl},p.isList.push _},?_,?_})
 ·intro i v j l s' h a
  rw[jy f h];exact D6 a
 ·intro l h j
  have e:(List.range c.toArray.size).any (λi=>b.getD i false)=b.any id:=by
   have a:=f.length;rw[Ag] at a;rw[A6,<-a,pR]
  rw[e];refine{.bl _,H,?_,rfl,q};refine I.kept (t':=h) λb o e=>j b o (λz=>?_) (AM _ e)
  have z:b=s.heap.objs.size:=by simpa using z
  have d:=Heap.lt_size e;rw[z] at d;exact Dj _ d
open PySem.SeqAt
mutual
noncomputable def D.eqq:D->D->Option Bool
 | .int i,.int j=>some (i == j)
 | .str i,.str j=>some (i == j)
 | .bl i,.bl j=>some (i == j)
 | .non,.non=>some true
 | .tup l,.tup m=>D.eqL l m
 | .lst l,.lst m=>if l.length=m.length then D.eqL l m else some false
 | .lst l,.fl m=>if l.length=m.length then D.eqL l m else some false
 | .fl l,.lst m=>if l.length=m.length then D.eqL l m else some false
 | .fl l,.fl m=>if l.length=m.length then D.eqL l m else some false
 | _,_=>none
noncomputable def D.eqL:List D->List D->Option Bool
 | [],[]=>some true
 | [],_::_=>some false
 | _::_,[]=>some false
 | a::l,b::m=>(D.eqq a b).bind λx=>(D.eqL l m).map λy=>x&&y
end
mutual
noncomputable def D.dep:D->Nat
 | .tup l=>D.depL l+1
 | .lst l=>D.depL l+1
 | .fl l=>D.depL l+1
 | _=>0
noncomputable def D.depL:List D->Nat
 | []=>0
 | d::l=>max (D.dep d) (D.depL l)
end
section
variable{X:Cx}{A3:List 'p'}{Y:St}{H:Hp}{s:Shared}{A1 A2:Addr->Prop}
def aB{b:Bool}{P:Prop}(e:(none:Option Bool)=some b):P:=nomatch e
def f6{α:Type}[BEq α][ReflBEq α]{i:α}{b:Bool}(e:some (i == i)=some b):b=true:=(Option.some.inj e).symm.trans (bO i)
mutual
theorem f7(I:Ab X A3 Y H s):∀{a d:D} {v:V} {b:Bool},Is X.K A1 H a v->Is X.K A2 H d v->D.eqq a d=some b->b=true
 | .int i,d,v,b,g,f,e=>by
   rw[Is.int_iff.mp g] at f;cases d with
   | int j=>have:=Is.int_iff.mp f;cases this;exact f6 e
   | _=>exact aB e
 | .str i,d,v,b,g,f,e=>by
   rw[Is.str_iff.mp g] at f;cases d with
   | str j=>have:=Is.str_iff.mp f;cases this;exact f6 e
   | _=>exact aB e
 | .bl i,d,v,b,g,f,e=>by
   rw[Is.bl_iff.mp g] at f;cases d with
   | bl j=>have:=Is.bl_iff.mp f;cases this;exact f6 e
   | _=>exact aB e
 | .non,d,v,b,g,f,e=>by
   cases d with
   | non=>exact(Option.some.inj (show some true=some b from e)).symm
   | _=>exact aB e
 | .tup l,d,v,b,g,f,e=>by
   cases d with
   | tup m=>
     obtain⟨a,q,p,j,i⟩:=Is.tup_sq g;obtain⟨r,us,c,h,n⟩:=Is.tup_sq f;rw[p] at c;cases c;have:=I.tuple_inj j h;subst this;exact eG I i n e
   | _=>exact aB e
 | .lst l,d,v,b,g,f,e=>by
   cases d with
   | lst m=>
     obtain⟨a,q,p,_,j,i⟩:=Is.lst_iff.mp g;obtain⟨r,us,c,_,h,n⟩:=Is.lst_iff.mp f;rw[p] at c;cases c;have:q=us:=by rw[j] at h;cases h;rfl
     subst this;have e:(if l.length=m.length then D.eqL l m else some false)=some b:=e;have u:l.length=m.length:=by rw[i.length,n.length]
     rw[if_pos u] at e;exact eG I i n e
   | fl m=>
     obtain⟨a,q,p,_,j,i⟩:=Is.lst_iff.mp g;obtain⟨r,o,us,c,h,n⟩:=Is.fl_iff.mp f;rw[p] at c;cases c;rw[j] at h;cases h
   | _=>exact aB e
 | .dct _ _,d,v,b,g,f,e=>by cases d<;>exact aB e
 | .fl l,d,v,b,g,f,e=>by
   cases d with
   | fl m=>
     obtain⟨a,o,q,p,j,i⟩:=Is.fl_iff.mp g;obtain⟨r,o',us,c,h,n⟩:=Is.fl_iff.mp f;rw[p] at c;cases c;have:q=us:=by rw[j] at h;cases h;rfl
     subst this;have e:(if l.length=m.length then D.eqL l m else some false)=some b:=e;have u:l.length=m.length:=by rw[i.length,n.length]
     rw[if_pos u] at e;exact eG I i n e
   | lst m=>
     obtain⟨a,o,q,p,j,i⟩:=Is.fl_iff.mp g;obtain⟨r,us,c,_,h,n⟩:=Is.lst_iff.mp f;rw[p] at c;cases c;rw[j] at h;cases h
   | _=>exact aB e
 | .fd _ _,d,v,b,g,f,e=>by cases d<;>(exact aB e)
theorem eG(I:Ab X A3 Y H s):∀{l m:List D} {c:List V} {b:Bool},aa X.K A1 H l c->aa X.K A2 H m c->D.eqL l m=some b->b=true
 | [],m,c,b,f,a,e=>by
   rw[aa.nil.mp f] at a;cases m with
   | nil=>unfold D.eqL at e;simpa using e.symm
   | cons x r=>obtain⟨_,_,z,_⟩:=aa.cons.mp a;cases z
 | d::l,m,c,b,f,a,e=>by
   obtain⟨v,r,g,i,h⟩:=aa.cons.mp f;subst g;cases m with
   | nil=>have:=aa.nil.mp a;cases this
   | cons x m=>
     obtain⟨v',r',f,j,g⟩:=aa.cons.mp a;cases f;unfold D.eqL at e;cases a:D.eqq d x with
     | none=>rw[a] at e;cases e
     | some f=>
       cases d:D.eqL l m with
       | none=>rw[a,d] at e;cases e
       | some l=>
         rw[a,d] at e;have e:some (f&&l)=some b:=e;cases e;rw[f7 I i j a,eG I h g d];rfl
end
def BN:List D->List D->List Bool
 | a::l,b::m=>((D.eqq a b).getD false)::BN l m
 | _,_=>[]
theorem dr:∀(l m:List D),(BN l m).length=min l.length m.length
 | [],m=>by cases m<;>simp[BN]
 | a::l,[]=>by simp[BN]
 | a::l,b::m=>by simp[BN,dr l m]
theorem du:∀{l m:List D} {b:Bool},D.eqL l m=some b->b=((BN l m).all id&&l.length == m.length)
 | [],[],b,e=>by unfold D.eqL at e;simpa [BN] using e.symm
 | [],_::_,b,e=>by unfold D.eqL at e;simpa [BN] using e.symm
 | _::_,[],b,e=>by unfold D.eqL at e;simpa [BN] using e.symm
 | a::l,x::m,b,e=>by
   unfold D.eqL at e;cases c:D.eqq a x with
   | none=>rw[c] at e;cases e
   | some d=>
     cases a:D.eqL l m with
     | none=>rw[c,a] at e;cases e
     | some f=>
       rw[c,a] at e;have e:some (d&&f)=some b:=e;cases e;rw[du a];simp[BN,c,Bool.and_assoc]
theorem jz:∀{l m:List D} {b:Bool} {j:Nat} {x y:D},D.eqL l m=some b->l[j]?=some x->m[j]?=some y->D.eqq x y=some ((BN l m).getD j false)
 | [],_,_,_,_,_,_,h,_=>by simp at h
 | _::_,[],_,_,_,_,_,_,h=>by simp at h
 | a::l,c::m,b,j,x,y,e,f,d=>by
   unfold D.eqL at e;cases b:D.eqq a c with
   | none=>rw[b] at e;cases e
   | some c=>
     cases a:D.eqL l m with
     | none=>rw[b,a] at e;cases e
     | some c=>
       cases j with
       | zero=>simp at f d;subst f d;simp[BN,b]
       | succ j=>
         have:=jz (j:=j) a (by simpa using f) (by simpa using d);simpa [BN] using this
theorem f8:∀{l:List D} {j:Nat} {x:D},l[j]?=some x->x.dep<=D.depL l
 | [],_,_,h=>by simp at h
 | a::l,0,x,h=>by simp at h;subst h;unfold D.depL;omega
 | a::l,j+1,x,h=>by
   have:=f8 (j:=j) (l:=l) (x:=x) (by simpa using h);unfold D.depL;omega
instance D.plain:D->Bool
 | .tup _=>false
 | .lst _=>false
 | .dct _ _=>false
 | .fl _=>false
 | .fd _ _=>false
 | _=>true
def jA{b:Bool}(c:d1.plain=true)(e:D.eqq d1 d2=some b)(g:Is X.K A1 H d1 v1)(h:Is X.K A2 H d2 v2)(f:Aj v1 u1)(d:Aj v2 u2):EqAt A s u1 u2 b:=by
 cases d1 with
 | int i=>
   cases d2 with
   | int j=>
     have b:=Is.int_iff.mp g;have a:=Is.int_iff.mp h;subst b a;obtain⟨t,rfl⟩:=f;obtain⟨l,rfl⟩:=d;cases (show some _=some _ from e);exact EqAt.int_int i t j l
   | _=>exact aB e
 | str i=>
   cases d2 with
   | str j=>
     have b:=Is.str_iff.mp g;have a:=Is.str_iff.mp h;subst b a;obtain⟨t,rfl⟩:=f;obtain⟨l,rfl⟩:=d;cases (show some _=some _ from e);exact EqAt.str_str i t j l
   | _=>exact aB e
 | bl i=>
   cases d2 with
   | bl j=>
     have b:=Is.bl_iff.mp g;have a:=Is.bl_iff.mp h;subst b a;cases f;cases d;cases (show some _=some _ from e);exact EqAt.bool_bool i j
   | _=>exact aB e
 | non=>
   cases d2 with
   | non=>
     have b:=Is.non_iff.mp g;have a:=Is.non_iff.mp h;subst b a;cases f;cases d;cases (show some _=some _ from e);exact EqAt.same _
   | _=>exact aB e
 | tup l=>simp[D.plain] at c
 | lst l=>simp[D.plain] at c
 | dct _ _=>simp[D.plain] at c
 | fl _=>simp[D.plain] at c
 | fd _ _=>simp[D.plain] at c
def cG{n:Nat}{b:Bool}(e:D.eqL l m=some b)(q:aa X.K A1 H l x)(r:aa X.K A2 H m us)(p:Aq x a)(c:Aq us its2)(ih:∀{f i:D} {b:Bool} {o d:V} {g h:Value},f.dep<=n->D.eqq f i=some b->Is X.K A1 H f o->Is X.K A2 H i d->Aj o g->Aj d h->EqAt A s g h b)(u:D.depL l<=n)(j:Nat)(f:j<a.toArray.size)(h:j<its2.toArray.size):EqAt A s a.toArray[j] its2.toArray[j] ((BN l m).getD j false):=by
 have b:j<a.length:=by simpa using f
 have g:j<its2.length:=by simpa using h
 have g1:j<l.length:=by rw[q.length,p.length];exact b
 have g2:j<m.length:=by rw[r.length,c.length];exact g
 have i:l[j]?=some l[j]:=AU g1;have n:m[j]?=some m[j]:=AU g2;obtain⟨o,h,v⟩:=q.get i;obtain⟨d,l,y⟩:=r.get n;obtain⟨s,d,q⟩:=p.get h;obtain⟨m,f,o⟩:=c.get l;have h:a.toArray[j]=s:=by
  rw[AU b] at d;have:=Option.some.inj d;simpa using this
 have b:its2.toArray[j]=m:=by
  rw[AU g] at f;have:=Option.some.inj f;simpa using this
 rw[h,b];exact ih (Az (f8 i) u) (jz e i n) v y q o
def f9(I:Ab X A3 Y H s):∀(n:Nat) {A:Around} {g d:D} {b:Bool} {h c:V} {f a:Value},g.dep<=n->A.units+n<cLine->D.eqq g d=some b->Is X.K A1 H g h->Is X.K A2 H d c->Aj h f->Aj c a->EqAt A s f a b:=by
 intro n;induction n with
 | zero=>
   intro A g d b h c f a p i e o r v y;refine jA ?_ e o r v y;cases g with
   | tup l=>exact absurd p (Nat.not_succ_le_zero _)
   | lst l=>exact absurd p (Nat.not_succ_le_zero _)
   | dct _ _=>cases d<;>exact aB e
   | fl _=>exact absurd p (Nat.not_succ_le_zero _)
   | fd _ _=>cases d<;>exact aB e
   | _=>rfl
 | succ n ih=>
   intro A g d b h c f a p i e o r v y;by_cases hp:g.plain=true
   ·exact jA hp e o r v y
   have x:A.units<cLine:=Cj (Cq _ _) i;have G:∀{g d:D} {b:Bool} {h c:V} {f a:Value},g.dep<=n->D.eqq g d=some b->Is X.K A1 H g h->Is X.K A2 H d c->Aj h f->Aj c a->EqAt A.in1 s f a b:=
    λp e o r v y=>ih (A:=A.in1) p (by rw[Around.in1_units,Nat.add_right_comm];exact i) e o r v y
   have c:∀{l m:List D},g.asL=some l->d.asL=some m->D.depL l<=n->(if l.length=m.length then D.eqL l m else some false)=some b->EqAt A s f a b:=λ{l m} i f U e'=>by
    obtain⟨a,vs,J,Y,N,_⟩:=Is.asL o i;obtain⟨C,us,h,Z,P,_⟩:=Is.asL r f;have W:a=C->b=true:=λz=>by
     subst z;rw[h] at r;rw[J] at o;exact f7 I o r e
    subst J h;cases v;cases y;by_cases z:a=C
    ·rw[W z,z];exact EqAt.same _
    ·obtain⟨u,M,R,_⟩:=I.list (.inl Y)
     obtain⟨f,i,T,_⟩:=I.list (.inl Z);have O:u.toArray.size=l.length:=by rw[A6,<-M.length,<-N.length]
     have Q:f.toArray.size=m.length:=by rw[A6,<-i.length,<-P.length]
     by_cases B:l.length=m.length
     ·rw[if_pos B] at e'
      have q:=RcAt.lists (A:=A) (e:=λj=>(BN l m).getD j false) R.isList T.isList (by rw[O,Q,B]) x (λj g1 g2=>cG e' N P M i G U j g1 g2);have E:=du e';have el:l.length=(BN l m).length:=by rw[dr,<-B,Nat.min_self]
      rw[O,el,dq] at q;rw[B] at E;simp at E;rw[E];exact EqAt.of_refs z q
     ·rw[if_neg B] at e'
      cases e';exact EqAt.of_refs z (RcAt.lists_lengths R.isList T.isList (by rw[O,Q];simpa using B) x)
   cases g with
   | tup l=>
     cases d with
     | tup m=>
       obtain⟨a,vs,J,Y,N⟩:=Is.tup_sq o;obtain⟨C,us,h,Z,P⟩:=Is.tup_sq r;have W:a=C->b=true:=λz=>by
        subst z;rw[h] at r;rw[J] at o;exact f7 I o r e
       subst J h;cases v;cases y;by_cases z:a=C
       ·rw[W z,z];exact EqAt.same _
       ·obtain⟨u,M,R,_⟩:=I.tuple Y
        obtain⟨f,i,T,_⟩:=I.tuple Z;have U:D.depL l<=n:=Hf p;have q:=RcAt.tuples (A:=A) (e:=λj=>(BN l m).getD j false) (show s.heap.IsTuple a u.toArray from R) (show s.heap.IsTuple C f.toArray from T) x (λj g1 g2=>cG e N P M i G U j g1 g2);have E:=du e;have O:u.toArray.size=l.length:=by rw[A6,<-M.length,<-N.length]
        have Q:f.toArray.size=m.length:=by rw[A6,<-i.length,<-P.length]
        rw[O,Q,<-dr,dq,<-E] at q;exact EqAt.of_refs z q
     | _=>exact aB e
   | lst l=>
     cases d with
     | lst m=>exact c rfl rfl (Hf p) e
     | fl m=>exact c rfl rfl (Hf p) e
     | _=>exact aB e
   | dct _ _=>cases d<;>exact aB e
   | fl l=>
     cases d with
     | lst m=>exact c rfl rfl (Hf p) e
     | fl m=>exact c rfl rfl (Hf p) e
     | _=>exact aB e
   | fd _ _=>cases d<;>exact aB e
   | _=>simp[D.plain] at hp
end
section
def jB(I:Ab X A3 Y H s){n:Nat}{b:Bool}(C:o.dep<=n)(a:A.units+n<cLine)(e:D.eqq o d=some b)(u:Is X.K A1 H o N)(B:Is X.K A2 H d G)(z:Aj N v)(y:Aj G x) :
 RcAt A s v x b/\RcNeAt A s v x (!b):=by
 have h:A.units<cLine:=Cj (Cq _ _) a;have c:∀{l m:List D},o.asL=some l->d.asL=some m->D.depL l+1<=n->(if l.length=m.length then D.eqL l m else some false)=some b->RcAt A s v x b/\RcNeAt A s v x (!b):=λ{l m} f g hd' e'=>by
  obtain⟨a,vs,ea,s1,J,_⟩:=Is.asL u f;obtain⟨a',us,P,s2,T,_⟩:=Is.asL B g;subst ea P;cases z;cases y;obtain⟨p,E,R,_⟩:=I.list (.inl s1);obtain⟨f,g,Q,_⟩:=I.list (.inl s2);have M:p.toArray.size=l.length:=by rw[A6,<-E.length,<-J.length]
  have W:f.toArray.size=m.length:=by rw[A6,<-g.length,<-T.length]
  by_cases i:l.length=m.length
  ·rw[if_pos i] at e'
   have r:∀{o d:D} {b:Bool} {N G:V} {v x:Value},o.dep<=n-1->D.eqq o d=some b->Is X.K A1 H o N->Is X.K A2 H d G->Aj N v->Aj G x->EqAt A.in1 s v x b:=
    λC e u B z y=>f9 I (n-1) (A:=A.in1) C (by rw[Around.in1_units];omega) e u B z y
   have q:=RcAt.lists (A:=A) (e:=λj=>(BN l m).getD j false) R.isList Q.isList (by rw[M,W,i]) h (λj g1 g2=>cG e' J T E g r 'o' j g1 g2);have Z:=RcNeAt.lists (A:=A) (e:=λj=>(BN l m).getD j false) R.isList Q.isList (by rw[M,W,i]) h (λj g1 g2=>cG e' J T E g r 'o' j g1 g2);have eb:=du e';have U:l.length=(BN l m).length:=by rw[dr,<-i,Nat.min_self]
   rw[M,U,dq] at q Z;have O:b=(BN l m).all id:=by rw[eb,i];simp
   rw[O];exact⟨q,Z⟩
  ·rw[if_neg i] at e'
   cases e';exact{RcAt.lists_lengths R.isList Q.isList (by rw[M,W];simpa using i) h,RcNeAt.lists_lengths R.isList Q.isList (by rw[M,W];simpa using i) h}
 cases o with
 | int i=>
   cases d with
   | int j=>
     have O:=Is.int_iff.mp u;have U:=Is.int_iff.mp B;subst O U;obtain⟨t,rfl⟩:=z;obtain⟨Y,rfl⟩:=y;cases (show some _=some _ from e);exact{RcAt.int_int i t j Y,RcNeAt.int_int i t j Y}
   | _=>exact aB e
 | str i=>
   cases d with
   | str j=>
     have O:=Is.str_iff.mp u;have U:=Is.str_iff.mp B;subst O U;obtain⟨t,rfl⟩:=z;obtain⟨Y,rfl⟩:=y;cases (show some _=some _ from e);exact{RcAt.str_str i t j Y,RcNeAt.str_str i t j Y}
   | _=>exact aB e
 | bl i=>
   cases d with
   | bl j=>
     have O:=Is.bl_iff.mp u;have U:=Is.bl_iff.mp B;subst O U;cases z;cases y;cases (show some _=some _ from e);exact{RcAt.bool_bool i j,RcNeAt.bool_bool i j}
   | _=>exact aB e
 | non=>
   cases d with
   | non=>
     have O:=Is.non_iff.mp u;have U:=Is.non_iff.mp B;subst O U;cases z;cases y;cases (show some _=some _ from e);exact⟨RcAt.none_none,RcNeAt.none_none⟩
   | _=>exact aB e
 | tup l=>
   cases d with
   | tup m=>
     obtain⟨a,vs,ea,s1,J⟩:=Is.tup_sq u;obtain⟨a',us,P,s2,T⟩:=Is.tup_sq B;subst ea P;cases z;cases y;obtain⟨p,E,R,_⟩:=I.tuple s1;obtain⟨f,g,Q,_⟩:=I.tuple s2;have hd':D.depL l+1<=n:=C;have r:∀{o d:D} {b:Bool} {N G:V} {v x:Value},o.dep<=n-1->D.eqq o d=some b->Is X.K A1 H o N->Is X.K A2 H d G->Aj N v->Aj G x->EqAt A.in1 s v x b:=
      λC e u B z y=>f9 I (n-1) (A:=A.in1) C (by rw[Around.in1_units];omega) e u B z y
     have q:=RcAt.tuples (A:=A) (e:=λj=>(BN l m).getD j false) (show s.heap.IsTuple a p.toArray from R) (show s.heap.IsTuple a' f.toArray from Q) h (λj g1 g2=>cG e J T E g r 'o' j g1 g2);have Z:=RcNeAt.tuples (A:=A) (e:=λj=>(BN l m).getD j false) (show s.heap.IsTuple a p.toArray from R) (show s.heap.IsTuple a' f.toArray from Q) h (λj g1 g2=>cG e J T E g r 'o' j g1 g2);have eb:=du e;have M:p.toArray.size=l.length:=by rw[A6,<-E.length,<-J.length]
     have W:f.toArray.size=m.length:=by rw[A6,<-g.length,<-T.length]
     rw[M,W,<-dr,dq,<-eb] at q Z;exact⟨q,Z⟩
   | _=>exact aB e
 | lst l=>
   cases d with
   | lst m=>exact c rfl rfl C e
   | fl m=>exact c rfl rfl C e
   | _=>exact aB e
 | dct _ _=>cases d<;>exact aB e
 | fl l=>
   cases d with
   | lst m=>exact c rfl rfl C e
   | fl m=>exact c rfl rfl C e
   | _=>exact aB e
 | fd _ _=>cases d<;>exact aB e
def Ii(K:FG)(neg:Bool):R2:=λx y H Q=>∃(A:Addr->Prop) (d1 d2:D) (b:Bool),Is K A H d1 x/\Is K A H d2 y/\d1.dep<=30/\D.eqq d1 d2=some b/\Q (.bl (if neg then !b else b)) H
def pS{k:Nat}(i:AQ k X.A):AX X (compareOp .Eq) (Ii X.K false):=by
 intro a s Y H x y v u Q I c g h;obtain⟨A,l,j,b,a,f,d,e,q⟩:=h;exact(jB I (n:=30) d (by have:=i.units;omega) e a f c g).1 _ _ _ _ {.bl b,H,I,rfl,q}
def vZ{k:Nat}(i:AQ k X.A):AX X (compareOp .NotEq) (Ii X.K true):=by
 intro a s Y H x y v u Q I c g h;obtain⟨A,l,j,b,a,f,d,e,q⟩:=h;exact(jB I (n:=30) d (by have:=i.units;omega) e a f c g).2 _ _ _ _ {.bl (!b),H,I,rfl,q}
def BR(x:D):List D->Option Bool
 | []=>some false
 | d::l=>(D.eqq d x).bind λb=>(BR x l).map λc=>b||c
def Ij(K:FG)(neg:Bool):R2:=λx y H Q=>∃(A:Addr->Prop) (d:D) (l:List D) (b:Bool),Is K A H d x/\(Is K A H (.lst l) y\/Is K A H (.tup l) y)/\D.depL l<=30/\BR d l=some b/\Q (.bl (if neg then !b else b)) H
open Classical in
def E4(x:D)(l:List D)(us:List Value)(u:Value):Bool:=decide (∃(j:Nat) (d:D),us[j]?=some u/\l[j]?=some d/\D.eqq d x=some true)
def eI:E4 x l us u=true↔∃(j:Nat) (d:D),us[j]?=some u/\l[j]?=some d/\D.eqq d x=some true:=by
 classical
 unfold E4;exact decide_eq_true_iff
theorem jC:∀{l:List D} {b:Bool},BR x l=some b->∀(j:Nat) (d:D),l[j]?=some d->∃c,D.eqq d x=some c
 | [],_,_,_,_,h=>by simp at h
 | a::l,b,e,j,d,h=>by
   unfold BR at e;cases b:D.eqq a x with
   | none=>rw[b] at e;cases e
   | some c=>
     cases a:BR x l with
     | none=>rw[b,a] at e;cases e
     | some f=>
       cases j with
       | zero=>simp at h;subst h;exact⟨c,b⟩
       | succ j=>exact jC a j d (by simpa using h)
theorem jD:∀{l:List D} {b:Bool},BR x l=some b->(b=true↔∃(j:Nat) (d:D),l[j]?=some d/\D.eqq d x=some true)
 | [],b,e=>by
   unfold BR at e;cases e;constructor
   ·intro h;cases h
   ·rintro ⟨j,d,h,_⟩;simp at h
 | a::l,b,e=>by
   unfold BR at e;cases f:D.eqq a x with
   | none=>rw[f] at e;cases e
   | some c=>
     cases g:BR x l with
     | none=>rw[f,g] at e;cases e
     | some i=>
       rw[f,g] at e;have e:some (c||i)=some b:=e;cases e;have ih:=jD g;rw[Bool.or_eq_true];constructor
       ·rintro (h | h)
        ·subst h;exact{0,a,rfl,f}
        ·obtain⟨j,d,b,a⟩:=ih.mp h
         exact{j+1,d,by simpa using b,a}
       ·rintro ⟨j,d,b,a⟩
        cases j with
        | zero=>
          simp at b;subst b;rw[f] at a;cases a;exact .inl rfl
        | succ j=>exact .inr (ih.mpr {j,d,by simpa using b,a})
def eJ(I:Ab X Z Y H s){b:Bool}(T:D.depL l<=30)(R:A.units+30<cLine)(e:BR x l=some b)(i:aa X.K A1 H l W)(J:Aq W a)(h:Is X.K A1 H x v)(r:Aj v u) :
 (∀y∈a.toArray,EqAt A s y u (E4 x l a y))/\a.toArray.any (E4 x l a)=b:=by
 have z:∀(j:Nat) (y:Value),a[j]?=some y->∃d w,l[j]?=some d/\Is X.K A1 H d w/\Aj w y:=λj y m=>by
  have n:j<a.length:=(AZ.mp m).1;have O:j<l.length:=by rw[i.length,J.length];exact n
  obtain⟨w,U,E⟩:=i.get (AU O);obtain⟨y',g,G⟩:=J.get U;rw[m] at g;cases g;exact{_,w,AU O,E,G}
 have p:∀(j:Nat) (y:Value) (d:D) (c:Bool),a[j]?=some y->l[j]?=some d->D.eqq d x=some c->EqAt A s y u c:=λj y d c m B C=>by
  obtain⟨d2,w,f,E,G⟩:=z j y m;rw[B] at f;cases f;exact f9 I 30 (Az (f8 B) T) R C E h G r
 constructor
 ·intro y m
  by_cases M:∃(j:Nat) (d:D),a[j]?=some y/\l[j]?=some d/\D.eqq d x=some true
  ·obtain⟨j,d,N,f,o⟩:=M
   have:E4 x l a y=true:=eI.mpr ⟨j,d,N,f,o⟩;rw[this];exact p j y d true N f o
  ·have:E4 x l a y=false:=by cases q:E4 x l a y with
    | false=>rfl
    | true=>exact(M (eI.mp q)).elim
   rw[this];obtain⟨j,n,P⟩:=List.mem_iff_getElem.mp (show y∈a by simpa using m);have g:a[j]?=some y:=by rw[AU n,P]
   obtain⟨d,w,f,E,G⟩:=z j y g;obtain⟨c,C⟩:=jC e j d f;cases c with
   | false=>exact p j y d false g f C
   | true=>exact(M ⟨j,d,g,f,C⟩).elim
 ·apply Bool.eq_iff_iff.mpr
  rw[jD e];have Q:a.toArray.any (E4 x l a)=a.any (E4 x l a):=by simp
  rw[Q,List.any_eq_true];constructor
  ·rintro ⟨y,_,m⟩
   obtain⟨j,d,_,f,o⟩:=eI.mp m;exact⟨j,d,f,o⟩
  ·rintro ⟨j,d,f,o⟩
   have n:j<a.length:=by rw[<-J.length,<-i.length];exact(AZ.mp f).1
   refine{a[j],List.getElem_mem n,?_};exact eI.mpr {j,d,AU n,f,o}
def v4{k:Nat}(E:AQ k X.A):AX X (compareOp .In) (Ij X.K false):=by
 intro G s Y H x y v u Q I o B h;obtain⟨A,d,l,b,n,c,z,e,q⟩:=h;have r:X.A.in1.units+30<cLine:=by rw[Around.in1_units];have:=E.units;omega
 rcases c with c | c
 ·obtain⟨a,C,m,_,i,g⟩:=Is.lst_iff.mp c
  subst m;cases B;obtain⟨j,f,p,_⟩:=I.list (.of i);obtain⟨g1,g2⟩:=eJ I z r e g f n o;exact in_listAt _ p.isList g1 {.bl b,H,I,by rw[g2];rfl,q}
 ·obtain⟨a,C,m,i,g⟩:=Is.tup_sq c
  subst m;cases B;obtain⟨j,f,p,_⟩:=I.tuple i;obtain⟨g1,g2⟩:=eJ I z r e g f n o;exact in_tupleAt _ p g1 {.bl b,H,I,by rw[g2];rfl,q}
def v5{k:Nat}(E:AQ k X.A):AX X (compareOp .NotIn) (Ij X.K true):=by
 intro G s Y H x y v u Q I o B h;obtain⟨A,d,l,b,n,c,z,e,q⟩:=h;have r:X.A.in1.units+30<cLine:=by rw[Around.in1_units];have:=E.units;omega
 rcases c with c | c
 ·obtain⟨a,C,m,_,i,g⟩:=Is.lst_iff.mp c
  subst m;cases B;obtain⟨j,f,p,_⟩:=I.list (.of i);obtain⟨g1,g2⟩:=eJ I z r e g f n o;exact notIn_listAt _ p.isList g1 {.bl (!b),H,I,by rw[g2];rfl,q}
 ·obtain⟨a,C,m,i,g⟩:=Is.tup_sq c
  subst m;cases B;obtain⟨j,f,p,_⟩:=I.tuple i;obtain⟨g1,g2⟩:=eJ I z r e g f n o;exact notIn_tupleAt _ p g1 {.bl (!b),H,I,by rw[g2];rfl,q}
variable{S:Type}{W:Wd S}{c:Dx W}
def Bq(neg:Bool)(a b:D):Option D:=if a.dep<=30 then (D.eqq a b).map λx=>.bl (if neg then !x else x) else none
instance oIn(neg:Bool)(a b:D):Option D:=match b with
 | .lst l=>if D.depL l<=30 then (BR a l).map λx=>.bl (if neg then !x else x) else none
 | .tup l=>if D.depL l<=30 then (BR a l).map λx=>.bl (if neg then !x else x) else none
 | _=>none
open H in
def v6{K:FG}{neg:Bool}(b:c.K=K):Bu c (Ii K neg) (Bq neg):=by
 subst b;intro a f j e H h d Q i g j e q;unfold Bq at e;split at e
 ·rename_i d
  cases h:D.eqq a f with
  | none=>rw[h] at e;cases e
  | some b=>
    rw[h] at e;cases e;exact{_,a,f,b,g,j,d,h,q _ H Af.refl i bh}
 ·cases e
open H in
def v7{K:FG}{neg:Bool}(b:c.K=K):Bu c (Ij K neg) (oIn neg):=by
 subst b;intro a g i e H h d Q f g i e q;unfold oIn at e;split at e
 ·rename_i l
  split at e
  ·rename_i d
   cases h:BR a l with
   | none=>rw[h] at e;cases e
   | some b=>
     rw[h] at e;cases e;exact{_,a,l,b,g,.inl i,d,h,q _ H Af.refl f bh}
  ·cases e
 ·rename_i l
  split at e
  ·rename_i d
   cases h:BR a l with
   | none=>rw[h] at e;cases e
   | some b=>
     rw[h] at e;cases e;exact{_,a,l,b,g,.inr i,d,h,q _ H Af.refl f bh}
  ·cases e
 ·cases e
end
section
variable{X:Cx}{S:Type}{W:Wd S}{c:Dx W}{g:Gr}{a b e:Expr}{rest:List Expr}{pos:Pos}{fa fb fc:Fn S}{ga gb gc:Gr}
def Ik(S:Type)(f1 f2:Fn S):Fn S:=λZ st=>(f1 Z st).bind λd st1=>match d with
 | .bl true=>f2 Z st1
 | .bl false=>.ok (.bl false) st1
 | _=>.bad
def JA(S:Type)(f1 f2:Fn S):Fn S:=λZ st=>(f1 Z st).bind λd st1=>match d with
 | .bl true=>.ok (.bl true) st1
 | .bl false=>f2 Z st1
 | _=>.bad
def JB(S:Type)(f1:Fn S):Fn S:=λZ st=>(f1 Z st).bind λd st1=>match d with
 | .bl b=>.ok (.bl (!b)) st1
 | _=>.bad
def v8{op}(h:DE X c g a f):DE X c g (.BoolOp op [a] pos) f:=nk h
def v9(d:DE X c ga a fa)(f:DE X c g (.BoolOp .And (b::rest) pos) fb):DE X c g (.BoolOp .And (a::b::rest) pos) (Ik S fa fb):=
 (np d f).imp λY H Q hI31=>by
  obtain⟨Z,d,R,h,w⟩:=hI31;refine aQ (Go.bind (g':=ga) (k:=λd Z f=>match d with | .bl true=>fb Z f | .bl false=>.ok (.bl false) f | _=>.bad) R h w) λv H1 hI113=>?_
  obtain⟨d,f,j,h,l,z,i⟩:=hI113;cases d with
  | bl k=>
    have d:v=.bl k:=Is.bl_iff.mp (show Is c.K 'w' H1 (.bl k) v from z.toR);refine{k,d,?_};cases k with
    | true=>exact cE ⟨Z,f,j,h,i⟩
    | false=>exact db (i (.bl false) H1 Af.refl h (AB.val j bh g))
  | _=>exact(show False from i).elim
def wa(d:DE X c ga a fa)(f:DE X c g (.BoolOp .Or (b::rest) pos) fb):DE X c g (.BoolOp .Or (a::b::rest) pos) (JA S fa fb):=
 (nq d f).imp λY H Q hI32=>by
  obtain⟨Z,d,R,h,w⟩:=hI32;refine aQ (Go.bind (g':=ga) (k:=λd Z f=>match d with | .bl true=>.ok (.bl true) f | .bl false=>fb Z f | _=>.bad) R h w) λv H1 hI114=>?_
  obtain⟨d,f,j,h,l,z,i⟩:=hI114;cases d with
  | bl k=>
    have d:v=.bl k:=Is.bl_iff.mp (show Is c.K 'w' H1 (.bl k) v from z.toR);refine{k,d,?_};cases k with
    | false=>exact db ⟨Z,f,j,h,i⟩
    | true=>exact cE (i (.bl true) H1 Af.refl h (AB.val j bh g))
  | _=>exact(show False from i).elim
def wb(d:DE X c ga a fa):DE X c g (.UnaryOp .Not a pos) (JB S fa):=
 (nr d).imp λY H Q hI33=>by
  obtain⟨Z,d,R,h,w⟩:=hI33;refine aQ (Go.bind (g':=ga) (k:=λd Z f=>match d with | .bl b=>.ok (.bl (!b)) f | _=>.bad) R h w) λv H1 hI115=>?_
  obtain⟨d,f,j,h,l,z,i⟩:=hI115;cases d with
  | bl k=>
    have d:v=.bl k:=Is.bl_iff.mp (show Is c.K 'w' H1 (.bl k) v from z.toR);exact{k,d,i (.bl (!k)) H1 Af.refl h (AB.val j bh g)}
  | _=>exact(show False from i).elim
def GM(S:Type)(o o':D->D->Option D)(f1 f2 f3:Fn S):Fn S:=λZ st=>(f1 Z st).bind λd1 st1=>(f2 Z st1).bind λd2 st2=>match o d1 d2 with
 | some (.bl true)=>(f3 Z st2).bind λd3 st3=>Aw (o' d2 d3) st3
 | some (.bl false)=>.ok (.bl false) st2
 | _=>.bad
def pT(hr:Bu c r o)(A:Bu c r' o')(h:tD c g (GM S o o' fa fb fc) Y H Q):Jp r r' (tD c ga fa) (tD c gb fb) (tD c gc fc) Y H Q:=by
 obtain⟨Z,E,R,J,w⟩:=h;refine aQ (Go.bind (g':=ga) (k:=λx Z y=>(fb Z y).bind λj i=>match o x j with | some (.bl true)=>(fc Z i).bind λl f=>Aw (o' j l) f | some (.bl false)=>.ok (.bl false) i | _=>.bad) R J w) λU H1 hI116=>?_
 obtain⟨x,y,R1,z,e1,z1,w1⟩:=hI116;refine aQ (Go.bind (g':=gb) (k:=λj Z i=>match o x j with | some (.bl true)=>(fc Z i).bind λl f=>Aw (o' j l) f | some (.bl false)=>.ok (.bl false) i | _=>.bad) R1 z w1) λC H2 hI117=>?_
 obtain⟨j,i,R2,p,M,G,s⟩:=hI117;cases q:o x j with
 | none=>simp only[q] at s;exact(show False from s).elim
 | some d=>
   simp only[q] at s;cases d with
   | bl k=>
     refine hr x j U C H2 i (.bl k) _ p (z1.toR.ext M z) G.toR q λv B e' m n=>?_
     refine{k,Is.bl_iff.mp n,?_};have T:=R2.ext p e';cases k with
     | false=>exact db (s (.bl false) B e' m (AB.val R2 bh g))
     | true=>
       refine cE ?_;have O:Go c g Y (λZ E=>(fc Z E).bind λl f=>Aw (o' j l) f) H2 Q Z i:=s;refine aQ (Go.bind (g':=gc) (k:=λl _ f=>Aw (o' j l) f) T m (O.from e' m)) λv3 H3 hI118=>?_
       obtain⟨l,f,I,u,e3,z3,w4⟩:=hI118;obtain⟨d,N,P⟩:=Go.done w4 u;exact A j l C v3 H3 f d Q u ((G.toR.ext e' p).ext e3 m) z3.toR N λv B a b n=>P v B a b (n.val I g)
   | _=>exact(show False from s).elim
def wc(m:AX X (compareOp op) r)(h:AX X (compareOp op') r')(p:Bu c r o)(f:Bu c r' o')(l:DE X c ga a fa)(n:DE X c gb b fb)(i:DE X c gc d fc)(j:lastMarks [op,op'] [b,d]=false:=by with_unfolding_all rfl):DE X c g (.Compare a [op,op'] [b,d] pos) (GM S o o' fa fb fc):=
 (nN m h l n i j).imp λY H Q h=>pT p f h
instance D.isNon:D->Bool
 | .non=>true
 | _=>false
def CG(neg:Bool)(a b:D):Option D:=match b with
 | .non=>some (.bl (if neg then !a.isNon else a.isNon))
 | _=>none
def jE{K:FG}{A:Addr->Prop}{H:Hp}{d:D}{v:V}(h:Is K A H d v):(decide (v=V.non))=d.isNon:=by
 cases d with
 | non=>rw[Is.non_iff.mp h];rfl
 | bl b=>rw[Is.bl_iff.mp h];rfl
 | int i=>rw[Is.int_iff.mp h];rfl
 | str x=>rw[Is.str_iff.mp h];rfl
 | tup l=>obtain⟨a,d,e,_⟩:=Is.tup_sq h;rw[e];rfl
 | lst l=>obtain⟨a,d,e,_⟩:=Is.lst_iff.mp h;rw[e];rfl
 | dct k l=>obtain⟨a,d,e,_⟩:=Is.dct_iff.mp h;rw[e];rfl
 | fl l=>obtain⟨a,o,d,e,_⟩:=Is.fl_iff.mp h;rw[e];rfl
 | fd k l=>obtain⟨a,o,d,f,e,_⟩:=Is.fd_iff.mp h;rw[e];rfl
def wd:Bu c (λx y H Q=>y=.non/\Q (.bl (decide (x=.non))) H) (CG false):=by
 intro f i h m H l d Q j f h e q;cases i with
 | non=>
   cases e;refine{Is.non_iff.mp h,?_};rw[jE f];exact q _ H Af.refl j bh
 | _=>cases e
def we:Bu c (λx y H Q=>y=.non/\Q (.bl (!decide (x=.non))) H) (CG true):=by
 intro f i h m H l d Q j f h e q;cases i with
 | non=>
   cases e;refine{Is.non_iff.mp h,?_};rw[jE f];exact q _ H Af.refl j bh
 | _=>cases e
def JC(S:Type)(t:AO S)(f1 f2:Fn S):Fn S:=λZ st=>(t Z st).bind λk st1=>if k=true then f1 Z st1 else f2 Z st1
def JD(S:Type)(f:Fn S):Fn S:=λZ st=>(f Z st).bind λd st1=>match d with
 | .int i=>.ok (.int (-i)) st1
 | _=>.bad
def wf(d:DE X c ga a fa):DE X c g (.UnaryOp .USub a pos) (JD S fa):=
 (nH nK d).imp λY H Q hI34=>by
  obtain⟨Z,d,R,h,w⟩:=hI34;refine aQ (Go.bind (g':=ga) (k:=λd _ f=>match d with | .int i=>.ok (.int (-i)) f | _=>.bad) R h w) λv H1 hI119=>?_
  obtain⟨d,f,l,h,m,z,j⟩:=hI119;cases d with
  | int i=>exact{i,Is.int_iff.mp (show Is c.K 'w' H1 (.int i) v from z.toR),j (.int (-i)) H1 Af.refl h (AB.val l bJ g)}
  | _=>exact(show False from j).elim
end
instance D.ty:D->String
 | .non=>"NoneType"
 | .bl _=>"bool"
 | .int _=>"int"
 | .str _=>"str"
 | .tup _=>"tuple"
 | .lst _=>"list"
 | .dct _ _=>"dict"
 | .fl _=>"list"
 | .fd _ _=>"dict"
inductive Bt where
 | int | bool | str | list | tuple | dict
instance Bt.nm:Bt->String
 | .int=>"int"
 | .bool=>"bool"
 | .str=>"str"
 | .list=>"list"
 | .tuple=>"tuple"
 | .dict=>"dict"
def BZ(T:Bt)(d:D):Bool:=match T,d with
 | .int,.int _=>true
 | .int,.bl _=>true
 | .bool,.bl _=>true
 | .str,.str _=>true
 | .list,.lst _=>true
 | .list,.fl _=>true
 | .tuple,.tup _=>true
 | .dict,.dct _ _=>true
 | .dict,.fd _ _=>true
 | _,_=>false
def pU(K:FG)(T:Bt)(d:D):PySem.W.kitOne K (.type d.ty) (.type T.nm)=some (BZ T d):=by
 cases T<;>cases d<;>first | rfl | decide
section
variable{X:Cx}{A3:List 'p'}{Y:St}{H:Hp}{s:Shared}
def pV(T:Bt)(I:Ab X A3 Y H s)(h:Is X.K A H d v)(r:Aj v u)(c:∀a,Q (.bool (BZ T d)) { s with toks:=a }) :
 wpAny 'e' A0 (call (.builtin "isinstance") [u,.type T.nm]) Q E s:=by
 have e:=pU X.K T d;cases d with
 | non=>rw[Is.non_iff.mp h] at r;exact bR I r .non e c
 | bl b=>rw[Is.bl_iff.mp h] at r;exact bR I r (.bl b) e c
 | int i=>rw[Is.int_iff.mp h] at r;exact bR I r (.int i) e c
 | str x=>rw[Is.str_iff.mp h] at r;exact bR I r (.str x) e c
 | lst l=>obtain⟨a,f,d,_,b,_⟩:=Is.lst_iff.mp h;rw[d] at r;exact bR I r (.lst b) e c
 | fl l=>obtain⟨a,o,f,d,b,_⟩:=Is.fl_iff.mp h;rw[d] at r;exact bR I r (.frz b) e c
 | dct k l=>
   obtain⟨a,f,d,_,_,q⟩:=Is.dct_iff.mp h;rw[d] at r;rcases q with⟨_,_,_,b⟩ | ⟨_,_,_,b⟩
   ·exact bR I r (.dK b) e c
   ·exact bR I r (.dT b) e c
 | fd k l=>
   obtain⟨a,m,f,j,d,_,_,b,_⟩:=Is.fd_iff.mp h;rw[d] at r;cases (show u=Value.ref a from r);obtain⟨_,_,_,n,_,o,es,p,g,i,_⟩:=(show Bb X.prog X.w H s.heap a (.frz m (.dT (j.zip f))) from I.hok a _ b);exact PySem.W.kia_one PySem.W.kitx_dict I.kIn ⟨o,g,i.1⟩ e (λz=>nomatch z) c
 | tup l=>
   obtain⟨a,f,d,b,_⟩:=Is.tup_sq h;rw[d] at r;cases r;obtain⟨a,_,⟨o,g,i,_⟩,_⟩:=I.tuple b;exact PySem.W.kia_one PySem.W.kitx_tuple I.kIn ⟨o,g,i⟩ e (λz=>nomatch z) c
variable{S:Type}{W:Wd S}{c:Dx W}{g ga:Gr}
instance fIs(S:Type)(T:Bt)(f:Fn S):Fn S:=λZ st=>(f Z st).bind λd st1=>.ok (.bl (BZ T d)) st1
def wg{x:Str}(T:Bt)(n:c.K=X.K)(r:Gl X "isinstance")(u:X.mg "isinstance" = none)(b:Gl X x)(i:X.mg x=none)(y:bootBuiltins x=some (.type T.nm))(q:DE X c ga e f)(j:autoParam (starEach (e::[.Name x p2]) X.env=(false,eval e X.env)::starEach [.Name x p2] X.env) uR)(a:autoParam (starEach [.Name x p2] X.env=(false,eval (.Name x p2) X.env)::starEach [] X.env) uR)(h:autoParam ((backTo pos (starEach [.Name x p2] X.env)).any (·.1)=false) uR)(l:autoParam (x≠"__name__") uD)(o:autoParam 'u' uD) :
 DE X c g (.Call (.Name "isinstance" p) [e,.Name x p2] [] pos) (fIs S T f):=by
 have m:PE X (.Call (.Name "isinstance" p) [e,.Name x p2] [] pos) (tCB (λe H Q=>∃A d v,e=[v,.ty T.nm]/\Is X.K A H d v/\Q (.bl (BZ T d)) H) (DX (tD c ga f) (DX (tC (.ty T.nm)) FC))):=by
  refine cZ (id:="isinstance") ?_ r u boot_isinstance (aT q (aT (nc b i y rfl l o) bg a) j) 'z' 'z' j h;intro A3 s Y H a us Q I r h;obtain⟨A,d,v,rfl,b,q⟩:=h;obtain⟨u,w',rfl,e,a⟩:=fH r;cases a;exact pV T I b e λa=>{.bl _,H,I.tok a,rfl,q}
 refine m.imp λY H Q hI120=>?_
 obtain⟨Z,a,R,b,w⟩:=hI120;refine aQ (Go.bind (g':=ga) (k:=λd _ a=>.ok (.bl (BZ T d)) a) R b w) λv H1 hI121=>?_
 obtain⟨d,a,f,b,h,z,e⟩:=hI121;exact{_,d,v,rfl,n▸(show Is c.K 'w' H1 d v from z.toR),e _ H1 Af.refl b (AB.val f bh g)}
end
section
variable{X:Cx}{S:Type}{W:Wd S}{c:Dx W}
def Cv:List D->Option D
 | [.lst l]=>some (.int l.length)
 | [.tup l]=>some (.int l.length)
 | [.fl l]=>some (.int l.length)
 | _=>none
open H in
def wj{K:FG}(a:c.K=K):Ct c (λo H Q=>∃p j,o=[.ref p]/\(AV K H p j\/AN K H p j)/\Q (.int j.length) H) Cv:=by
 subst a;intro l f H b d Q n z e q;unfold Cv at e;split at e
 ·rename_i m
  cases e;obtain⟨v,r,b,f,h⟩:=aa.cons.mp z;obtain⟨a,us,i,_,g,d⟩:=Is.lst_iff.mp f;rw[aa.nil.mp h,i] at b;exact{a,us,b,.inl (.of g),by rw[<-d.length];exact q _ H Af.refl n bJ}
 ·rename_i m
  cases e;obtain⟨v,r,b,f,h⟩:=aa.cons.mp z;obtain⟨a,us,i,g,d⟩:=Is.tup_sq f;rw[aa.nil.mp h,i] at b;exact{a,us,b,.inr g,by rw[<-d.length];exact q _ H Af.refl n bJ}
 ·rename_i m
  cases e;obtain⟨v,r,b,f,h⟩:=aa.cons.mp z;obtain⟨a,us,i,g,d,_⟩:=Is.asL f rfl;rw[aa.nil.mp h,i] at b;exact{a,us,b,.inl (.inl g),by rw[<-d.length];exact q _ H Af.refl n bJ}
 ·cases e
def FK:List D->Option D
 | [.lst l]=>if D.immL l=true then some (.tup l) else none
 | [.tup l]=>if D.immL l=true then some (.tup l) else none
 | _=>none
open H in
def wk{K:FG}(a:c.K=K):Ct c (λs H Q=>∃p f,s=[.ref p]/\((AV K H p f/\∀l,H l=none->Q (.ref l) (Ad H l (.tup f)))\/(AN K H p f/\Q (.ref p) H))) FK:=by
 subst a;intro l h H b d Q g z e q;unfold FK at e;split at e
 ·rename_i m
  split at e
  ·rename_i im
   cases e;obtain⟨v,r,b,i,l⟩:=aa.cons.mp z;obtain⟨a,us,o,_,d,h⟩:=Is.lst_iff.mp i;rw[aa.nil.mp l,o] at b;exact{a,us,b,.inl {.of d,λp j=>q _ _ (Af.laid j) (aJ g j) (AB.tup g j (λ_ n=>n) im h)}}
  ·cases e
 ·rename_i m
  split at e
  ·rename_i im
   cases e;obtain⟨v,r,b,i,l⟩:=aa.cons.mp z;obtain⟨a,us,o,d,h⟩:=Is.tup_iff.mp i;rw[aa.nil.mp l,o] at b;exact{a,us,b,.inr {.of d,q _ H Af.refl g (Is.tup d (aa.ofImm im h))}}
  ·cases e
 ·cases e
def Ht:List D->Option D
 | [.lst l]=>if D.immL l=true then some (.lst l) else none
 | [.tup l]=>if D.immL l=true then some (.lst l) else none
 | _=>none
open H in
def wl{K:FG}(a:c.K=K):Ct c (λs H Q=>∃p g,s=[.ref p]/\(AV K H p g\/AN K H p g)/\∀l,H l=none->Q (.ref l) (Ad H l (.lst g))) Ht:=by
 subst a;intro l h H b d Q f z e q;unfold Ht at e;split at e
 ·rename_i m
  split at e
  ·rename_i im
   cases e;obtain⟨v,r,d,i,l⟩:=aa.cons.mp z;obtain⟨a,us,o,_,j,h⟩:=Is.lst_iff.mp i;rw[aa.nil.mp l,o] at d;exact{a,us,d,.inl (.of j),λp b=>q _ _ (Af.laid b) (aJ f b) (AB.lst f b (λ_ n=>n) im h)}
  ·cases e
 ·rename_i m
  split at e
  ·rename_i im
   cases e;obtain⟨v,r,d,i,l⟩:=aa.cons.mp z;obtain⟨a,us,o,j,h⟩:=Is.tup_sq i;rw[aa.nil.mp l,o] at d;exact{a,us,d,.inr j,λp b=>q _ _ (Af.laid b) (aJ f b) (AB.lst f b (λ_ n=>n) im h)}
  ·cases e
 ·cases e
def GN:List D->Option D
 | [.int i]=>some (.int i)
 | [.bl k]=>some (.int (if k then 1 else 0))
 | _=>none
open H in
def wm:Ct c (λg H Q=>(∃i,g=[.int i]/\Q (.int i) H)\/∃k,g=[.bl k]/\Q (.int (if k then 1 else 0)) H) GN:=by
 intro l b H a d Q f z e q;unfold GN at e;split at e
 ·rename_i i
  cases e;obtain⟨v,r,a,b,d⟩:=aa.cons.mp z;rw[aa.nil.mp d,Is.int_iff.mp b] at a;exact .inl {i,a,q _ H Af.refl f bJ}
 ·rename_i i
  cases e;obtain⟨v,r,a,b,d⟩:=aa.cons.mp z;rw[aa.nil.mp d,Is.bl_iff.mp b] at a;exact .inr {i,a,q _ H Af.refl f bJ}
 ·cases e
def Il(f:Int->Int->Int):List D->Option D
 | [.int i,.int j]=>some (.int (f i j))
 | _=>none
open H in
def wn(f:Int->Int->Int):Ct c (λm H Q=>∃i j,m=[.int i,.int j]/\Q (.int (f i j)) H) (Il f):=by
 intro l b H a d Q g z e q;unfold Il at e;split at e
 ·rename_i i j
  cases e;obtain⟨v,r,f,h,l⟩:=aa.cons.mp z;obtain⟨v',r',d,b,a⟩:=aa.cons.mp l;rw[d,aa.nil.mp a,Is.int_iff.mp h,Is.int_iff.mp b] at f;exact{i,j,f,q _ H Af.refl g bJ}
 ·cases e
def Dc:List D->Option (List Bool)
 | []=>some []
 | .bl b::l=>(Dc l).map λr=>b::r
 | _=>none
theorem jF{K:FG}{A:Addr->Prop}{H:Hp}:∀{l:List D} {d:List V} {a:List Bool},Dc l=some a->aa K A H l d->d=a.map V.bl
 | [],d,a,e,h=>by cases e;exact aa.nil.mp h
 | .bl b::l,d,a,e,h=>by
   unfold Dc at e;cases q:Dc l with
   | none=>rw[q] at e;cases e
   | some r=>
     rw[q] at e;cases e;obtain⟨v,us,b,a,f⟩:=aa.cons.mp h;rw[b,Is.bl_iff.mp a,jF q f];rfl
 | .non::_,_,_,e,_=>by simp[Dc] at e
 | .int _::_,_,_,e,_=>by simp[Dc] at e
 | .str _::_,_,_,e,_=>by simp[Dc] at e
 | .tup _::_,_,_,e,_=>by simp[Dc] at e
 | .lst _::_,_,_,e,_=>by simp[Dc] at e
 | .dct _ _::_,_,_,e,_=>by simp[Dc] at e
def Fi(f:List Bool->Bool):List D->Option D
 | [.lst l]=>(Dc l).map λbs=>.bl (f bs)
 | _=>none
open H in
def wo{K:FG}(f:List Bool->Bool):Ct c (λn H Q=>∃(a:Addr) (b:List Bool),n=[.ref a]/\AV K H a (b.map V.bl)/\Q (.bl (f b)) H) (Fi f):=by
 intro l g H f d Q h z e q;unfold Fi at e;split at e
 ·rename_i m
  cases d:Dc m with
  | none=>rw[d] at e;cases e
  | some b=>
    rw[d] at e;cases e;obtain⟨v,r,f,j,l⟩:=aa.cons.mp z;obtain⟨a,us,m,_,g,i⟩:=Is.lst_iff.mp j;rw[aa.nil.mp l,m] at f;rw[jF d i] at g;exact{a,b,f,.of g,q _ H Af.refl h bh}
 ·cases e
def Im:D->D->Option D
 | .lst l,.lst m=>if D.immL l=true/\D.immL m=true/\l.length+m.length<=sizeLine then some (.lst (l++m)) else none
 | _,_=>none
open H in
def pW:Bu c Hi Im:=by
 intro e b h a H g d Q f n p e q;unfold Im at e;split at e
 ·rename_i l m
  split at e
  ·rename_i h
   cases e;obtain⟨a,m,o,_,i,d⟩:=Is.lst_iff.mp n;obtain⟨b,us,j,_,l,g⟩:=Is.lst_iff.mp p;exact{a,b,m,us,o,j,i,l,by rw[<-d.length,<-g.length];exact h.2.2,λp a=>q _ _ (Af.laid a) (aJ f a) (AB.lst f a (λ_ n=>n) (bI h.1 h.2.1) (d.append g))}
  ·cases e
 ·cases e
def Io:D->D->Option D
 | .tup l,.tup m=>if D.immL l=true/\D.immL m=true/\l.length+m.length<=sizeLine/\l.isEmpty=false then some (.tup (l++m)) else none
 | _,_=>none
open H in
def pX{K:FG}(a:c.K=K):Bu c (Hg K) Io:=by
 subst a;intro f e h b H g d Q f n s e q;unfold Io at e;split at e
 ·rename_i l m
  split at e
  ·rename_i h
   cases e;obtain⟨a,j,r,i,d⟩:=Is.tup_iff.mp n;obtain⟨b,us,o,p,g⟩:=Is.tup_sq s;have n:j≠[]:=λz=>by
    have:=d.length;rw[z] at this;have s:=h.2.2.2;cases l with
    | nil=>cases s
    | cons _ _=>cases this
   refine{a,b,j,us,r,o,.of i,p,n,by rw[<-d.length,<-g.length];exact h.2.2.1,λb=>?_,λ_ p a=>q _ _ (Af.laid a) (aJ f a) (AB.tup f a (λ_ n=>n) (bI h.1 h.2.1) (d.append g))};have a:m=[]:=by
    have:=g.length;rw[b] at this;exact Hd.mp this
   rw[a,Ck] at q;exact q _ H Af.refl f (Is.tup i (aa.ofImm h.1 d))
  ·cases e
 ·cases e
end
def GO:D->Option Au
 | .int i=>some (.inl i)
 | .str x=>some (.inr x)
 | _=>none
def EN:List D->Option (List Au)
 | []=>some []
 | d::l=>(GO d).bind λk=>(EN l).map λr=>k::r
def Ga:D->Option Ak
 | .int i=>some (.inl i)
 | .str x=>some (.inr x)
 | .tup l=>(EN l).map .t
 | _=>none
def EO:List D->Option (List Ak)
 | []=>some []
 | d::l=>(Ga d).bind λk=>(EO l).map λr=>k::r
def AJ:D->Option (List Ak)
 | .tup l=>EO l
 | _=>none
def pY(k:Au):GO (CT k)=some k:=by cases k<;>rfl
theorem jG:∀k:List Au,EN (k.map CT)=some k
 | []=>rfl
 | a::k=>by
   show (GO (CT a)).bind (λx=>(EN (k.map CT)).map λr=>x::r)=some (a::k);rw[pY,jG k];rfl
theorem pZ:∀k:Ak,Ga (FF k)=some k
 | .inl _=>rfl
 | .inr _=>rfl
 | .t l=>by show (EN (l.map CT)).map Ak.t=_;rw[jG];rfl
theorem jH:∀k:List Ak,EO (k.map FF)=some k
 | []=>rfl
 | a::k=>by
   show (Ga (FF a)).bind (λx=>(EO (k.map FF)).map λr=>x::r)=some (a::k);rw[pZ,jH k];rfl
def cH(k:List Ak):AJ (AH k)=some k:=jH k
section
variable{K:FG}{A:Addr->Prop}{H:Hp}
def p9(e:GO d=some k)(h:Is K A H d v):v=kV k/\d=CT k:=by
 cases d with
 | int i=>cases e;exact{Is.int_iff.mp h,rfl}
 | str x=>cases e;exact{Is.str_iff.mp h,rfl}
 | _=>cases e
theorem jI:∀{l:List D} {k:List Au} {c:List V},EN l=some k->aa K A H l c->c=k.map kV/\l=k.map CT
 | [],k,c,e,h=>by cases e;exact{aa.nil.mp h,rfl}
 | d::l,k,c,e,h=>by
   unfold EN at e;cases b:GO d with
   | none=>rw[b] at e;cases e
   | some a=>
     cases f:EN l with
     | none=>rw[b,f] at e;cases e
     | some r=>
       rw[b,f] at e;have e:some (a::r)=some k:=e;cases e;obtain⟨v,us,j,i,m⟩:=aa.cons.mp h;obtain⟨n,p⟩:=p9 b i;obtain⟨g,o⟩:=jI f m;subst j n g;exact{rfl,by rw[p,o];rfl}
def qb(e:Ga d=some k)(h:Is K A H d v):KIs H k v/\d=FF k:=by
 cases d with
 | int i=>cases e;exact{Is.int_iff.mp h,rfl}
 | str x=>cases e;exact{Is.str_iff.mp h,rfl}
 | tup l=>
   obtain⟨b,c,a,s,i⟩:=Is.tup_iff.mp h;have e:(EN l).map Ak.t=some k:=e;cases q:EN l with
   | none=>rw[q] at e;cases e
   | some r=>
     rw[q] at e;cases e;obtain⟨c,d⟩:=jI q i;exact{{b,a,by rw[<-c];exact s},by rw[d];rfl}
 | _=>cases e
theorem jJ:∀{l:List D} {k:List Ak} {c:List V},EO l=some k->aa K A H l c->Paired (KIs H) k c/\l=k.map FF
 | [],k,c,e,h=>by cases e;cases aa.nil.mp h;exact{.nil,rfl}
 | d::l,k,c,e,h=>by
   unfold EO at e;cases b:Ga d with
   | none=>rw[b] at e;cases e
   | some a=>
     cases f:EO l with
     | none=>rw[b,f] at e;cases e
     | some r=>
       rw[b,f] at e;have e:some (a::r)=some k:=e;cases e;obtain⟨v,us,j,i,m⟩:=aa.cons.mp h;obtain⟨n,p⟩:=qb b i;obtain⟨g,o⟩:=jJ f m;subst j;exact{.cons n g,by rw[p,o];rfl}
def dw(e:AJ d=some k)(h:Is K A H d v):∃b,v=.ref b/\Do H b k/\d=AH k:=by
 cases d with
 | tup l=>
   obtain⟨b,c,a,s,i⟩:=Is.tup_iff.mp h;obtain⟨d,f⟩:=jJ (show EO l=some k from e) i;exact{b,a,⟨c,s,d⟩,by rw[f];rfl}
 | _=>cases e
def AD(k:List Ak):List D->List D->Option D
 | d::ks,v::vs=>if AJ d=some k then some v else AD k ks vs
 | _,_=>none
theorem ge(k:List Ak):∀{a:List (List Ak)} {b:List D} {us:List V},a.length=us.length->aa K A H b us->
 (AD k (a.map AH) b=none/\Cd (a.zip us) k=none)\/∃d v,AD k (a.map AH) b=some d/\Cd (a.zip us) k=some v/\Is K A H d v
 | [],b,us,c,h=>.inl {by unfold AD;cases b<;>rfl,rfl}
 | x::a,b,us,c,h=>by
   cases b with
   | nil=>rw[aa.nil.mp h] at c;cases c
   | cons d b=>
     obtain⟨v,r,e,g,i⟩:=aa.cons.mp h;subst e;have f:a.length=r.length:=by simpa using c
     by_cases e:x=k
     ·refine .inr {d,v,?_,cf (p:=(x,v)) e,g}
      show (if AJ (AH x)=some k then some d else _)=some d;rw[cH,if_pos (by rw[e])]
     ·have e':¬AJ (AH x)=some k:=by rw[cH];exact λz=>e (Option.some.inj z)
      have c:AD k ((x::a).map AH) (d::b)=AD k (a.map AH) b:=by
       show (if AJ (AH x)=some k then some d else _)=_;rw[if_neg e']
      have d:Cd ((x::a).zip (v::r)) k=Cd (a.zip r) k:=cg (p:=(x,v)) e;rw[c,d];exact ge k f i
end
section
variable{X:Cx}{S:Type}{W:Wd S}{c:Dx W}{g ga gb:Gr}{a b:Expr}{pos:Pos}{fa fb:Fn S}
def wp:DE X c g (.Dict [] [] pos) (fC S (.dct [.non] [])):=oW.imp λY H Q ⟨Z,f,R,e,w⟩ p d=>
 w _ _ (Af.laid d) (aJ e d) (AB.val R (Is.dct_iff.mpr {p,[],rfl,{bx e d,d},aa.nil.mpr rfl,.inr {[],rfl,rfl,aq}}) g)
def Dt(neg:Bool)(k d:D):Option D:=match d with
 | .dct (.non::ks) vs=>(AJ k).map λkk=>.bl (if neg then !(AD kk ks vs).isSome else (AD kk ks vs).isSome)
 | _=>none
def gf{A:Addr->Prop}{H:Hp}{K:FG}{k:D}{f j:List D}{e:List Ak}{p m:V}(s:AJ k=some e)(u:Is K A H k p)(G:Is K A H (.dct (.non::f) j) m) :
 ∃a o,m=.ref a/\BM H a p o/\((AD e f j=none/\o=none)\/∃d v,AD e f j=some d/\o=some v/\Is K A H d v):=by
 obtain⟨b,E,N,_⟩:=dw s u;obtain⟨a,us,I,_,i,q⟩:=Is.dct_iff.mp G;rcases q with⟨O,n,_,_⟩ | ⟨B,y,x,M⟩
 ·cases O with
  | nil=>cases n
  | cons z r=>
    have:D.non=CT z:=(List.cons.inj n).1;cases z<;>cases this
 ·have J:f=B.map AH:=(List.cons.inj y).2
  subst J E;refine{a,_,I,BM.t M N,?_};rcases ge e x i with⟨h,l⟩ | ⟨d,v,h,l,C⟩
  ·exact .inl ⟨h,l⟩
  ·exact .inr ⟨d,v,h,l,C⟩
open H in
def jK{Y:St}{H:Hp}{Q:VK}{neg:Bool}(h:tD c g (f2 S (Dt neg) fa fb) Y H Q):(λY H Q=>tD c ga fa Y H λy H1=>tD c gb fb Y H1 λx H2=>∃a o,x=.ref a/\BM H2 a y o/\Q (.bl (if neg then !o.isSome else o.isSome)) H2) Y H Q:=by
 have u:Bu c (λy x H2 Q=>∃a o,x=.ref a/\BM H2 a y o/\Q (.bl (if neg then !o.isSome else o.isSome)) H2) (Dt neg):=by
  intro f m j e H i d Q l m r e q;unfold Dt at e;split at e
  ·rename_i j n
   cases d:AJ f with
   | none=>rw[d] at e;cases e
   | some i=>
     rw[d] at e;cases e;obtain⟨a,o,p,f,s⟩:=gf d m r;refine{a,o,p,f,?_};have m:o.isSome=(AD i j n).isSome:=by
      rcases s with⟨d,f⟩ | ⟨_,_,d,f,_⟩<;>rw[d,f]<;>rfl
     rw[m];exact q _ H Af.refl l bh
  ·cases e
 exact dj u h
def wq(d:X.A.units+2<cLine)(f:DE X c ga a fa)(h:DE X c gb b fb)(e:autoParam (behindInMarks .In b=false) uR):DE X c g (.Compare a [.In] [b] pos) (f2 S (Dt false) fa fb):=
 (ng (oU d f h) e).imp λY H Q q=>jK q
end
def AS(k:List Ak)(v:D)(ks vs:List D):List D×List D:=
 if (AD k ks vs).isSome=true then (ks,List.zipWith (λd u=>if AJ d=some k then v else u) ks vs) else (ks++[AH k],vs++[v])
section
variable{K:FG}{A:Addr->Prop}{H:Hp}
theorem jL(f:Is K A H d v):∀{kk:List (List Ak)} {b:List D} {us:List V},kk.length=us.length->aa K A H b us->
 ∃a,aa K A H (List.zipWith (λx u=>if AJ x=some k then d else u) (kk.map AH) b) a/\kk.length=a.length/\(kk.zip us).map (λc=>if c.1=k then (c.1,v) else c)=kk.zip a
 | [],b,us,c,h=>{[],by simpa using aa.nil.mpr rfl,rfl,rfl}
 | x::kk,b,us,c,h=>by
   cases b with
   | nil=>rw[aa.nil.mp h] at c;cases c
   | cons e b=>
     obtain⟨u,r,i,g,j⟩:=aa.cons.mp h;subst i;obtain⟨a,g1,g2,g3⟩:=jL f (kk:=kk) (by simpa using c) j;by_cases z:x=k
     ·refine{v::a,?_,by simp[g2],?_}
      ·show aa K A H ((if AJ (AH x)=some k then d else e)::_) _
       rw[cH,if_pos (by rw[z])];exact aa.cons.mpr ⟨v,a,rfl,f,g1⟩
      ·show (if x=k then (x,v) else (x,u))::_=(x,v)::kk.zip a
       rw[if_pos z,<-g3];rfl
     ·refine{u::a,?_,by simp[g2],?_}
      ·show aa K A H ((if AJ (AH x)=some k then d else e)::_) _
       rw[cH,if_neg (λq=>z (Option.some.inj q))];exact aa.cons.mpr ⟨u,a,rfl,g,g1⟩
      ·show (if x=k then (x,v) else (x,u))::_=(x,u)::kk.zip a
       rw[if_neg z,<-g3];rfl
def gg{k:List Ak}{d:D}{v:V}(g:Is K A H d v){c:List (List Ak)}{f:List D}{us:List V}(e:c.length=us.length)(h:aa K A H f us) :
 ∃(b:List (List Ak)) (a:List V),(AS k d (c.map AH) f).1=b.map AH/\aa K A H (AS k d (c.map AH) f).2 a/\b.length=a.length/\Bh (c.zip us) k v=b.zip a:=by
 have i:=ge k e h;unfold AS Bh;rw[de];rcases i with⟨b,d⟩ | ⟨d',v',b,d,_⟩
 ·rw[b,d]
  refine{c++[k],us++[v],?_,?_,?_,?_}
  ·simp
  ·simpa using h.append (aa.one g)
  ·simp[e]
  ·simp[List.zip_append e]
 ·rw[b,d]
  obtain⟨a,g1,g2,g3⟩:=jL (k:=k) g e h;exact⟨c,a,rfl,g1,g2,g3⟩
end
theorem jM(c:d.imm=true):∀{b a:List D},D.immL a=true->D.immL (List.zipWith (λx u=>if AJ x=some k then d else u) b a)=true
 | [],a,_=>by simp[D.immL]
 | x::b,[],_=>by simp[D.immL]
 | x::b,v::a,h=>by
   have e:v.imm=true/\D.immL a=true:=by simpa [D.immL] using h
   show (D.imm (if AJ x=some k then d else v)&&D.immL _)=true;rw[jM c e.2];by_cases z:AJ x=some k
   ·rw[if_pos z,c];rfl
   ·rw[if_neg z,e.1];rfl
def eK(a:d.imm=true)(h:D.immL b=true):D.immL (AS k d ks b).2=true:=by
 unfold AS;split
 ·exact jM a h
 ·exact bI h (by simp[D.immL,a])
section
variable{X:Cx}{S:Type}{W:Wd S}{c:Dx W}{g ga gb:Gr}{a b:Expr}{fk fv:Fn S}{i:Nat}
def DZ(Z:Ae)(i:Nat):Option (List D×List D):=match Z[i]? with
 | some (.own (.dct (.non::ks) vs))=>if D.immL vs=true then some (ks,vs) else none
 | _=>none
def qc(h:DZ Z i=some (e,d)):Z[i]?=some (.own (.dct (.non::e) d))/\D.immL d=true:=by
 unfold DZ at h;split at h
 ·split at h
  ·cases h;exact{by assumption,by assumption}
  ·cases h
 ·cases h
def JE(S:Type)(i:Nat)(fk fv:Fn S):Ax S:=λZ st=>(fv Z st).bind λv st1=>match DZ Z i with
 | some (ks,vs)=>(fk Z st1).bind λk st2=>match AJ k with
   | some kk=>if v.imm=true/\ks.length<sizeLine then .ok (.nx (Z.set i (.own (.dct (.non::(AS kk v ks vs).1) (AS kk v ks vs).2)))) st2 else .bad
   | none=>.bad
 | none=>.bad
def wt{x:Str}{k value:Expr}{p1 p2 pos:Pos}(hu:X.A.units+2<cLine)(hx:PE X (.Name x p1) (Bx i))(hk:DE X c ga k fk)(hv:DE X c gb value fv)(hs:autoParam (swapsWith value (some (.Subscript (.Name x p1) k p2)) pos.line X.env=pure false) uR) :
 DS X c (.Assign [.Subscript (.Name x p1) k p2] value pos) (JE S i fk fv):=
 (fN hu hx hk hv hs).imp λD Y H q=>by
  refine aQ (bS (g:=gb) (k:=λv Z st1=>match DZ Z i with
   | some (ks,vs)=>(fk Z st1).bind λk st2=>match AJ k with
     | some kk=>if v.imm=true/\ks.length<sizeLine then .ok (.nx (Z.set i (.own (.dct (.non::(AS kk v ks vs).1) (AS kk v ks vs).2)))) st2 else .bad
     | none=>.bad
   | none=>.bad) q) λv H1 hh=>?_
  obtain⟨Z,d,st0,st1,R,ok,R1,ok1,e1,z,w⟩:=hh;cases hd:DZ Z i with
  | none=>simp only[hd] at w;exact(show False from w).elim
  | some kv=>
    obtain⟨ks,vs⟩:=kv;simp only[hd] at w;obtain⟨ho,im⟩:=qc hd;obtain⟨ad,ea,nn,f0,us0,_⟩:=R1.slot i _ ho;refine{.ref ad,aY ea,Z,st1,R1,ok1,aj (ae.mp w) (λdk st2 q2 vk H2 e2 ok2 zk=>?_) λx st2 q2 H2 e2 ok2=>q2 H2 ((e1.trans e2).f0 R) ok2};cases hkk:AJ dk with
    | none=>simp only[hkk] at q2;exact(show False from q2).elim
    | some kk=>
      simp only[hkk] at q2;by_cases hc:d.imm=true/\ks.length<sizeLine
      ·rw[if_pos hc] at q2
       have R2:=R1.ext ok1 e2;obtain⟨ad',ea',nn',f0',us,iu,hq⟩:=R2.slot i _ ho;have:ad'=ad:=by
        have:=(aY ea').symm.trans (aY ea);cases this;rfl
       subst this;obtain⟨bk,ebk,hbk,_⟩:=dw hkk (show Is c.K 'w' H2 dk vk from zk.toR);have zv:Is c.K (Av c Y Z) H2 d v:=Is.ofImm hc.1 (z.toR.ext e2 ok1);rcases hq with⟨k1,x1,_,_⟩ | ⟨k2,x2,el,eH⟩
       ·cases k1 with
        | nil=>cases x1
        | cons y r=>
          have:L2.D.non=CT y:=(List.cons.inj x1).1;cases y<;>cases this
       ·have e3:ks=k2.map AH:=(List.cons.inj x2).2
        subst e3;obtain⟨kk',us',g1,g2,g3,g4⟩:=gg (k:=kk) zv el iu;have hz:(k2.zip us).length<sizeLine:=by
         rw[List.length_zip,<-el,Nat.min_self];have:=hc.2;rw[Ag] at this;exact this
        have dp:=EM.t (v:=v) eH hbk hz;rw[g4] at dp;subst ebk;refine{ad',_,rfl,dp,?_};obtain⟨R3,F3⟩:=R2.wr (d':=.dct (.non::(AS kk d (k2.map AH) vs).1) (AS kk d (k2.map AH) vs).2) (o:=.dT (kk'.zip us')) ho (aY ea') {(λu z=>by cases z),(λob u z=>by cases z)}
         λkt=>{us',g2.mono kt,.inr {kk',by rw[g1],g3,aq}}
        exact q2 Y _ ((e1.trans e2).frm.trans F3) (bU ok2 nn.1 eH) R3
      ·rw[if_neg hc] at q2;exact(show False from q2).elim
end
section
variable{X:Cx}{S:Type}{W:Wd S}{c:Dx W}{g ga gb:Gr}
def Hu(K:FG):R2:=λx y H Q=>∃a b ys,x=.ref a/\y=.ref b/\AN K H a []/\AN K H b ys/\Q (.ref b) H
def qd:AX X (binaryOp .Add) (Hu X.K):=by
 intro a s Y H x y v u Q I d j h;obtain⟨a,b,f,rfl,rfl,e,l,q⟩:=h;cases d;cases j;obtain⟨i,f,r,_⟩:=I.tuple e;obtain⟨h,d,u,_⟩:=I.tuple l;cases f;obtain⟨⟨e,p,d,s⟩,l,o,n,m⟩:=id r;obtain⟨⟨d,j,data2,i⟩,e,f,r,d⟩:=id u;simp only at o m f d;subst o m f d;exact concat_meets {_,l,rfl} {_,e,rfl} noFill_tuple_add seq_tuple_add PySem.F.slot_tuple_add PySem.F.entry_tuple_add (PySem.F.args_tuple_add_2 _ _) (tuple_addW0 a b _ h.toArray n r p j s i rfl) {l,e,{.ref b,H,I,rfl,q}}
def Ip:D->D->Option D
 | .tup [],.tup m=>if D.immL m=true then some (.tup m) else none
 | _,_=>none
open H in
def qe{K:FG}:Bu c (Hu K) Ip:=by
 intro e b h a H f d Q i l h e q;unfold Ip at e;split at e
 ·rename_i m
  split at e
  ·rename_i im
   cases e;obtain⟨a,b,o,d,j⟩:=Is.tup_iff.mp l;obtain⟨b,us,f,n,p⟩:=Is.tup_iff.mp h;rw[aa.nil.mp j] at d;refine{a,b,us,o,f,.of d,.of n,?_};rw[<-f];exact q _ H Af.refl i (Is.ofImm (by show D.immL m=true;exact im) h)
  ·cases e
 ·cases e
def JF(S:Type)(i:Nat)(fk fv:Fn S):Ax S:=λZ st=>(fv Z st).bind λv st1=>match Bj Z i with
 | some l=>(fk Z st1).bind λk st2=>match k with
   | .int j=>match CC l.length j with
     | some n=>if v.imm=true then .ok (.nx (Z.set i (.own (.lst (l.set n v))))) st2 else .bad
     | none=>.bad
   | _=>.bad
 | none=>.bad
def wu{x:Str}{i:Nat}(a:PE X (.Name x p1) (Bx i))(d:DE X c ga k fk)(e:DE X c gb value fv)(h:∀{b a:TE},PE X k b->PE X value a->PS X (.Assign [.Subscript (.Name x p1) k p2] value pos) (FB a (Jn (Bx i) b Ju))):DS X c (.Assign [.Subscript (.Name x p1) k p2] value pos) (JF S i fk fv):=
 (h d e).imp λD Y H q=>by
  refine aQ (bS (g:=gb) (k:=λv Z a=>match Bj Z i with
   | some l=>(fk Z a).bind λk b=>match k with
     | .int j=>match CC l.length j with
       | some n=>if v.imm=true then .ok (.nx (Z.set i (.own (.lst (l.set n v))))) b else .bad
       | none=>.bad
     | _=>.bad
   | none=>.bad) q) λv H1 h=>?_
  obtain⟨Z,d,e,a,R,m,r,f,y,z,w⟩:=h;cases p:Bj Z i with
  | none=>simp only[p] at w;exact(show False from w).elim
  | some l=>
    simp only[p] at w;obtain⟨u,s,A,G,C,B⟩:=r.lstAt p;refine{.ref u,A,Z,a,r,f,aj (ae.mp w) (λq b e a H2 h i m=>?_) λx b e H2 h i=>e H2 ((y.trans h).f0 R) i};cases q with
    | int j=>
      have E:a=.int j:=Is.int_iff.mp (show Is c.K 'w' H2 (.int j) a from m.toR);cases q:CC l.length j with
      | none=>simp only[q] at e;exact(show False from e).elim
      | some n=>
        simp only[q] at e;by_cases x:d.imm=true
        ·rw[if_pos x] at e
         have R2:=r.ext f h;have m:=h u _ G B;have r:aa c.K (Av c Y Z) H2 l s:=C.mono (h.keepT f λb a=>⟨a.1,a⟩);have b:Is c.K (Av c Y Z) H2 d v:=Is.ofImm x (z.toR.ext h f);refine{u,s,j,n,rfl,E,m,by rw[<-r.length];exact q,?_};obtain⟨a,f⟩:=R2.wr (d':=.lst (l.set n d)) (o:=.lst (s.set n v)) (fW p) A {(λu z=>by cases z),(λd u z=>by cases z)} λd=>{_,aq,(r.set n b).mono d}
         exact e Y _ ((y.trans h).frm.trans f) (bU i B m) a
        ·rw[if_neg x] at e;exact(show False from e).elim
    | _=>exact(show False from e).elim
end
end L2
namespace PySem
structure C8(prog:Program)(w:World)(it l:Addr)(xs:List Value)(P:Nat->Heap->Prop):Prop where
 keep:∀k h h',P k h->(∀b o,b=it\/b=l->h.get? b=some o->h'.get? b=some o)->P k h'
 item:∀(A:Around) (E:Value->Shared->Prop) (s:Shared) (k:Nat) (x:Value) (Q:Value->Shared->Prop),P k s.heap->xs[k]?=some x->
  (∀h',P (k+1) h'->Heap.SameBut it s.heap h'->Q x { s with heap:=h' })->wpAny 'r' A (Builtin.SmallTypes.nextOf (.ref it)) Q E s
 stop:∀(A:Around) (E:Value->Shared->Prop) (s:Shared) (k:Nat) (Q:Value->Shared->Prop),A.handled=none->P k s.heap->xs[k]?=none->
  (∀h' e,Heap.ExtBut it s.heap h'->(∃o,h'.get? e=some o/\o.cls=.type "StopIteration")->E (.ref e) { s with heap:=h' })->wpAny 'r' A (Builtin.SmallTypes.nextOf (.ref it)) Q E s
section
variable{prog:Program}{w:World}{it l:Addr}{xs:List Value}
def C8.tup(f:it≠l):C8 prog w it l xs (λk h=>h.IsTupleIter it l k/\h.IsTuple l xs.toArray) where
 keep:=λk h g ⟨a,b⟩ q=>{a.at λo e=>q it o (.inl rfl) e,by
  obtain⟨o,d,r⟩:=b;exact{o,q l o (.inr rfl) d,r}}
 item:=λA E s k x Q ⟨a,b⟩ c h=>jv a b (by simpa using c) λg i e=>h g {i,by
  obtain⟨o,d,r⟩:=b;exact{o,e.extBut l o f.symm d,r}} e
 stop:=λA E s k Q d ⟨a,b⟩ c e=>jw d a b (by simpa using c) e
def C8.lst(d:it≠l):C8 prog w it l xs (λk h=>h.IsListIter it l k/\h.IsList l xs.toArray) where
 keep:=λk h f ⟨a,b⟩ q=>{a.at λo e=>q it o (.inl rfl) e,b.at λo e=>q l o (.inr rfl) e}
 item:=λA E s k x Q ⟨a,b⟩ c g=>wpAny_nextOf_list_item a b (by simpa using c) λf h e=>g f {h,b.extBut e.extBut d.symm} e
 stop:=λA E s k Q d ⟨a,b⟩ c e=>wpAny_nextOf_list_end d a b (by simpa using c) e
end
section
variable{prog:Program}{w:World}{A:Around}{E:Value->Shared->Prop}{s:Shared}{z TI TO i1 i2 l1 l2:Addr}{xs ys:List Value}{P1 P2:Nat->Heap->Prop}{k:Nat}{x y a b:Value}
structure ZAp(z TI TO i1 i2 l1 l2:Addr):Prop where
 zTI:z≠TI
 zTO:z≠TO
 z1:z≠i1
 z2:z≠i2
 io:TI≠TO
 I1:TI≠i1
 I2:TI≠i2
 O1:TO≠i1
 O2:TO≠i2
 ii:i1≠i2
 lz1:l1≠z
 lo1:l1≠TO
 li1:l1≠i2
 lz2:l2≠z
 lo2:l2≠TO
 li2:l2≠i1
def C8.ext(W:C8 prog w it l xs P){k:Nat}(p:P k h)(e:Heap.ExtBut c h h')(d:it≠c)(f:l≠c):P k h':=
 W.keep k h h' p λb o c q=>by
  rcases c with r | r
  ·subst r;exact e _ o d q
  ·subst r;exact e _ o f q
def qf{Q:Value->Shared->Prop}(m:C8 prog w i1 l1 xs P1)(l:C8 prog w i2 l2 ys P2)(D:ZAp z TI TO i1 i2 l1 l2)(e:IsZip s.heap z TI TO .none)(f:IsPair s.heap TI (.ref i1) (.ref i2))(g:IsPair s.heap TO a b)(j:P1 k s.heap)(p:P2 k s.heap)(i:xs[k]?=some x)(n:ys[k]?=some y)(J:∀d,IsZip d z TI TO (rawInt s.heap.objs.size)->IsPair d TO x y->P1 (k+1) d->P2 (k+1) d->IsPair d s.heap.objs.size x y->d.objs.size=s.heap.objs.size+1->
  (∀c o,c∉[z,TO,i1,i2]->s.heap.get? c=some o->d.get? c=some o)->Q (.ref s.heap.objs.size) { s with heap:=d }) :
 wpAny 'r' A (Builtin.«zip.__next__» {[.ref z],[]}) (λfin s'=>∃v,fin=.done (.ret v)/\Q v s') E s:=by
 show wpAny 'r' A (field (.ref z) 2 >>= λ_=>_) _ _ s;refine Ac (B3 e rfl (x:=.bool false) rfl ?_);show wpAny 'r' A (field (.ref z) 3 >>= λ_=>_) _ _ s;refine Ac (B3 e rfl (x:=.ref TI) rfl (Ac (Ew f rfl ?_)));show wpAny 'r' A (Builtin.SmallTypes.ownedTupleIsFree (.ref z) >>= λ_=>_) _ _ s;refine Ac ?_;unfold Builtin.SmallTypes.ownedTupleIsFree;refine Ac (B3 e rfl (x:=.none) rfl (An ?_));rw[if_pos rfl];refine Ac (aW (Ac (B3 e rfl (x:=.ref TO) rfl (Ac (Eu e 'd' λg1 q h=>?_)))));have q:IsZip g1 z TI TO .ellipsis:=q;have h:Heap.SameBut z s.heap g1:=h;refine Ac ?_;simp only[List.zipIdx_cons,List.zipIdx_nil,List.forIn_cons,List.forIn_nil];refine Ac (Ac (wpAny_onRaise ?_));show wpAny 'r' _ (Builtin.SmallTypes.nextOf (.ref i1) >>= λ_=>_) _ _ _;refine Ac (m.item _ _ _ k x _ (m.ext j h.extBut D.z1.symm D.lz1) i λg2 r f=>An ?_);have f:Heap.SameBut i1 g1 g2:=f;have d:IsPair g2 TO a b:=f.extBut _ _ D.O1 (h.extBut _ _ D.zTO.symm g);refine Ac (Ew d rfl (Ac (wpAny_updateSeq_pair d λg3 e j=>?_)));have e:IsPair g3 TO x b:=e;have j:Heap.SameBut TO g2 g3:=j;refine Ac (wpAny_letGo (An (Ac (Ac (wpAny_onRaise ?_)))));show wpAny 'r' _ (Builtin.SmallTypes.nextOf (.ref i2) >>= λ_=>_) _ _ _;have d:P2 k g3:=l.ext (l.ext (l.ext p h.extBut D.z2.symm D.lz2) f.extBut D.ii.symm D.li2) j.extBut D.O2.symm D.lo2;refine Ac (l.item _ _ _ k y _ d n λg4 u i=>An ?_);have i:Heap.SameBut i2 g3 g4:=i;have n:IsPair g4 TO x b:=i.extBut _ _ D.O2 e;refine Ac (Ew n rfl (Ac (wpAny_updateSeq_pair n λd p g=>?_)));have p:IsPair d TO x y:=p;have g:Heap.SameBut TO g4 d:=g;refine Ac (wpAny_letGo (An (An (Ac (Ew p rfl (Ac (wpAny_newTuple ?_)))))));have I:d.objs.size=s.heap.objs.size:=by rw[g.1,i.1,j.1,f.1,h.1]
 have M:∀c o,c∉[z,TO,i1,i2]->s.heap.get? c=some o->d.get? c=some o:=λc o n e=>by
  simp only[AK,DC,or_false,not_or] at n;exact g.extBut _ _ n.2.1 (i.extBut _ _ n.2.2.2 (j.extBut _ _ n.2.1 (f.extBut _ _ n.2.2.1 (h.extBut _ _ n.1 e))))
 have h:IsZip d z TI TO .ellipsis:=g.extBut _ _ D.zTO (i.extBut _ _ D.z2 (j.extBut _ _ D.zTO (f.extBut _ _ D.z1 q)));have B:P1 (k+1) d:=m.ext (m.ext (m.ext r j.extBut D.O1.symm D.lo1) i.extBut D.ii D.li1) g.extBut D.O1.symm D.lo1;have C:P2 (k+1) d:=l.ext u g.extBut D.O2.symm D.lo2;show wpAny 'r' A (Builtin.SmallTypes.ownedTupleHandOut (.ref z) (.ref d.objs.size) >>= λ_=>_) _ _ _;refine Ac ?_;unfold Builtin.SmallTypes.ownedTupleHandOut;have f:IsZip (d.push { cls:=.type "tuple",data:=.seq #[x,y] }) z TI TO .ellipsis:=AM _ h;have u:z<d.objs.size:=Heap.lt_size h;have G:(d.push { cls:=.type "tuple",data:=.seq #[x,y] }).get? d.objs.size=some { cls:=.type "tuple",data:=.seq #[x,y] }:=Bi _ rfl;refine Ac (Eu f 'd' λj q g=>?_);have q:IsZip j z TI TO (rawInt d.objs.size):=q;have g:Heap.SameBut z (d.push { cls:=.type "tuple",data:=.seq #[x,y] }) j:=g;refine Eu q 'd' λf i h=>An {_,rfl,?_}
 have i:IsZip f z TI TO (rawInt d.objs.size):=i;have h:Heap.SameBut z j f:=h;have q:∀c o,c≠z->d.get? c=some o->f.get? c=some o:=λc o n e=>h.extBut _ _ n (g.extBut _ _ n (AM _ e))
 have v:Heap.ExtBut z d f:=λc o n e=>q c o n e
 have j:IsPair f d.objs.size x y:=h.extBut _ _ (Nat.ne_of_gt u) (g.extBut _ _ (Nat.ne_of_gt u) G);have r:f.objs.size=d.objs.size+1:=by rw[h.1,g.1,DP]
 show Q (.ref d.objs.size) _;rw[I] at i j r ⊢;exact J f i (q _ _ D.zTO.symm p) (m.ext B v D.z1.symm D.lz1) (l.ext C v D.z2.symm D.lz2) j r λc o n e=>q c o (λh=>n (by simp[h])) (M c o n e)
def qg(I:A.handled=none)(G:C8 prog w i1 l1 xs P1)(r:C8 prog w i2 l2 ys P2)(D:ZAp z TI TO i1 i2 l1 l2)(d:IsZip s.heap z TI TO .none)(g:IsPair s.heap TI (.ref i1) (.ref i2))(v:IsPair s.heap TO a b)(n:P1 k s.heap)(P:P2 k s.heap)(l:xs[k]?=none\/ys[k]?=none)(N:∀f e,(∀c o,c∉[z,TO,i1,i2]->s.heap.get? c=some o->f.get? c=some o)->(∃o,f.get? e=some o/\o.cls=.type "StopIteration")->E (.ref e) { s with heap:=f }) :
 wpAny 'r' A (Builtin.«zip.__next__» {[.ref z],[]}) Q E s:=by
 have M:∀{h:Heap} {e:Addr} {f:Value} {o:Obj},IsZip h z TI TO f->h.get? e=some o->o.cls=.type "StopIteration"->e≠z:=λ{h e f o} J i m j=>by
  subst j;rw[J] at i;cases i;simp at m
 show wpAny 'r' A (field (.ref z) 2 >>= λ_=>_) _ _ s;refine Ac (B3 d rfl (x:=.bool false) rfl ?_);show wpAny 'r' A (field (.ref z) 3 >>= λ_=>_) _ _ s;refine Ac (B3 d rfl (x:=.ref TI) rfl (Ac (Ew g rfl ?_)));show wpAny 'r' A (Builtin.SmallTypes.ownedTupleIsFree (.ref z) >>= λ_=>_) _ _ s;refine Ac ?_;unfold Builtin.SmallTypes.ownedTupleIsFree;refine Ac (B3 d rfl (x:=.none) rfl (An ?_));rw[if_pos rfl];refine Ac (aW (Ac (B3 d rfl (x:=.ref TO) rfl (Ac (Eu d 'd' λg1 p g=>?_)))));have p:IsZip g1 z TI TO .ellipsis:=p;have g:Heap.SameBut z s.heap g1:=g;refine Ac ?_;simp only[List.zipIdx_cons,List.zipIdx_nil,List.forIn_cons,List.forIn_nil];refine Ac (Ac (wpAny_onRaise ?_));show wpAny 'r' _ (Builtin.SmallTypes.nextOf (.ref i1) >>= λ_=>_) _ _ _;have i:P1 k g1:=G.ext n g.extBut D.z1.symm D.lz1;cases u:xs[k]? with
 | none=>
   refine Ac (G.stop _ _ _ k _ I i u λg2 e d B=>?_);obtain⟨C,j,m⟩:=B;have O:IsZip g2 z TI TO .ellipsis:=d _ _ D.z1 p;refine Eu O 'd' λg3 _ f=>N g3 e (λc o n q=>?_) {C,f.extBut _ _ (M O j m) j,m}
   simp only[AK,DC,or_false,not_or] at n;exact f.extBut _ _ n.1 (d _ _ n.2.2.1 (g.extBut _ _ n.1 q))
 | some x=>
   have O:ys[k]?=none:=by
    rcases l with h | h
    ·rw[u] at h;cases h
    ·exact h
   refine Ac (G.item _ _ _ k x _ i u λg2 J d=>An ?_);have d:Heap.SameBut i1 g1 g2:=d;have h:IsPair g2 TO a b:=d.extBut _ _ D.O1 (g.extBut _ _ D.zTO.symm v);refine Ac (Ew h rfl (Ac (wpAny_updateSeq_pair h λg3 i f=>?_)));have f:Heap.SameBut TO g2 g3:=f;refine Ac (wpAny_letGo (An (Ac (Ac (wpAny_onRaise ?_)))));show wpAny 'r' _ (Builtin.SmallTypes.nextOf (.ref i2) >>= λ_=>_) _ _ _;have h:P2 k g3:=r.ext (r.ext (r.ext P g.extBut D.z2.symm D.lz2) d.extBut D.ii.symm D.li2) f.extBut D.O2.symm D.lo2;refine Ac (r.stop _ _ _ k _ I h O λg4 e l B=>?_);obtain⟨C,j,m⟩:=B;have h:IsZip g4 z TI TO .ellipsis:=l _ _ D.z2 (f.extBut _ _ D.zTO (d.extBut _ _ D.z1 p));refine Eu h 'd' λr _ i=>N r e (λc o n q=>?_) {C,i.extBut _ _ (M h j m) j,m}
   simp only[AK,DC,or_false,not_or] at n;exact i.extBut _ _ n.1 (l _ _ n.2.2.2 (f.extBut _ _ n.2.1 (d.extBut _ _ n.2.2.1 (g.extBut _ _ n.1 q))))
end
instance zO(nm:String)(l:Addr):Obj:={ cls:=.type nm,data:=.fields #[.ref l,.int 0 0] }
instance zA(nm:String)(h:Heap)(l1 l2:Addr):Heap:=(h.push (zO nm l1)).push (zO nm l2)
instance zB(nm:String)(h:Heap)(l1 l2:Addr):Heap:=((zA nm h l1 l2).push { cls:=.type "tuple",data:=.seq #[.ref h.objs.size,.ref (h.push (zO nm l1)).objs.size] }).push { cls:=.type "tuple",data:=.seq #[.none,.none] }
instance zC(nm:String)(h:Heap)(l1 l2:Addr):Heap:=(zB nm h l1 l2).push { cls:=.type "zip",data:=.fields #[.none,.bool false,.bool false,.ref (zA nm h l1 l2).objs.size,.ref ((zA nm h l1 l2).push { cls:=.type "tuple",data:=.seq #[.ref h.objs.size,.ref (h.push (zO nm l1)).objs.size] }).objs.size] }
def qh(a b:Addr)(p l:Array Value) :
 Meets (Builtin.«zip.__new__» {[.type "zip",.ref a,.ref b],[]}) (λ_ R s=>s.heap.IsTuple a p/\s.heap.IsTuple b l/\
  R (.ok (.ret (.ref (zB "tuple_iterator" s.heap a b).objs.size))) { s with heap:=zC "tuple_iterator" s.heap a b }):=
 .of_wp λprog w A R s h=>by
  obtain⟨m,g,d,j,n⟩:=s;obtain⟨c,f,h⟩:=h;have i:=sub_zip;have e:Heap.IsTuple (Shared.heap ⟨m,g,d,j,n⟩) a p:=c;have i:Heap.IsTuple (Shared.heap ⟨m.push { cls:=.type "tuple_iterator",data:=.fields #[.ref a,.int 0 0] },g,d,j,n⟩) b l:=by
   obtain⟨o,a,r⟩:=f;exact{o,AM _ a,r}
  wp_walk using wpAny_pyIter_tuple e,wpAny_pyIter_tuple i
  exact{_,rfl,h}
def eL(b:String)(h:Heap)(a c:Addr):(h.push (zO b a)).objs.size=h.objs.size+1/\(zA b h a c).objs.size=h.objs.size+2/\(zB b h a c).objs.size=h.objs.size+4:=by
 refine{DP ..,?_,?_}
 ·unfold zA;rw[DP,DP]
 ·unfold zB zA;rw[DP,DP,DP,DP]
def eM(a:String)(h:Heap)(b d:Addr):IsZip (zC a h b d) (h.objs.size+4) (h.objs.size+2) (h.objs.size+3) .none/\IsPair (zC a h b d) (h.objs.size+2) (.ref h.objs.size) (.ref (h.objs.size+1))/\
 IsPair (zC a h b d) (h.objs.size+3) .none .none/\(zC a h b d).get? h.objs.size=some (zO a b)/\(zC a h b d).get? (h.objs.size+1)=some (zO a d)/\∀c o,h.get? c=some o->(zC a h b d).get? c=some o:=by
 obtain⟨f,e,i⟩:=eL a h b d;have g:((zA a h b d).push { cls:=.type "tuple",data:=.seq #[.ref h.objs.size,.ref (h.push (zO a b)).objs.size] }).objs.size=h.objs.size+3:=by rw[DP,e]
 have u:∀{c:Addr} {o:Obj},(zB a h b d).get? c=some o->(zC a h b d).get? c=some o:=λ{c o} q=>AM _ q
 have v:∀{c:Addr} {o:Obj},(zA a h b d).get? c=some o->(zC a h b d).get? c=some o:=λ{c o} q=>u (AM _ (AM _ q))
 refine{?_,?_,?_,v (AM _ (Bi _ rfl)),?_,λc o q=>v (AM _ (AM _ q))}
 ·have q:(zC a h b d).get? (zB a h b d).objs.size=some _:=Bi _ rfl
  rw[i,g,e] at q;exact q
 ·have q:(zC a h b d).get? (zA a h b d).objs.size=some _:=u (AM _ (Bi _ rfl))
  rw[e,f] at q;exact q
 ·have q:(zC a h b d).get? ((zA a h b d).push { cls:=.type "tuple",data:=.seq #[.ref h.objs.size,.ref (h.push (zO a b)).objs.size] }).objs.size=some _:=u (Bi _ rfl)
  rw[g] at q;exact q
 ·have q:(zA a h b d).get? (h.push (zO a b)).objs.size=some (zO a d):=Bi _ rfl
  rw[f] at q;exact v q
def qk(b:s.heap.IsTuple l1 e)(a:s.heap.IsTuple l2 d)(h:Q (.ref (s.heap.objs.size+4)) { s with heap:=zC "tuple_iterator" s.heap l1 l2 }):wpAny 'r' A (call (.type "zip") [.ref l1,.ref l2]) Q E s:=by
 refine callType_new F.called_zip 'z' (F.typeCall_zip_2 _ _) (F.newCall_zip_2 _ _) (λc=>F.args_object_init_3 c _ _) F.entry_zip_new (qh l1 l2 e d) {b,a,?_};obtain⟨q,_⟩:=eM "tuple_iterator" s.heap l1 l2;show _/\_;rw[(eL "tuple_iterator" s.heap l1 l2).2.2];exact{{_,q,rfl},h}
def qm(b:s.heap.IsList l1 e)(a:s.heap.IsList l2 d)(h:Q (.ref (s.heap.objs.size+4)) { s with heap:=zC "list_iterator" s.heap l1 l2 }):wpAny 'r' A (call (.type "zip") [.ref l1,.ref l2]) Q E s:=by
 refine callType_new F.called_zip 'z' (F.typeCall_zip_2 _ _) (F.newCall_zip_2 _ _) (λc=>F.args_object_init_3 c _ _) F.entry_zip_new (meets_zip_new l1 l2 e d) {b,a,?_};obtain⟨q,_⟩:=eM "list_iterator" s.heap l1 l2;show _/\_;refine{{{ cls:=.type "zip",data:=.fields #[.none,.bool false,.bool false,.ref (s.heap.objs.size+2),.ref (s.heap.objs.size+3)] },?_,rfl},?_}
 ·rw[show (zipH4 s.heap l1 l2).objs.size=s.heap.objs.size+4 from (eL "list_iterator" s.heap l1 l2).2.2];exact q
 ·rw[show (zipH4 s.heap l1 l2).objs.size=s.heap.objs.size+4 from (eL "list_iterator" s.heap l1 l2).2.2];exact h
end PySem
namespace L2
instance Izp(Sq:Hp->List V->List V->Prop):It:=
 {λi H=>∃xs ys x y,Sq H xs ys/\xs[i]?=some x/\ys[i]?=some y,λi H v H'=>∃p x y,H p=none/\v=.ref p/\H'=Ad H p (.tup [x,y])/\∀xs ys,Sq H xs ys->xs[i]?=some x/\ys[i]?=some y,λi H=>∃xs ys,Sq H xs ys/\(xs.length<=i\/ys.length<=i)}
structure ZW(P:Program)(w:World)(K:FG)(l1 l2 i1 i2:Addr)(Sq:Hp->List V->List V->Prop)(T1 T2:Nat->Heap->Prop):Prop where
 obj:∀k h,(T1 k h->∃o,h.get? i1=some o/\∀v,o.data≠.cell v)/\(T2 k h->∃o,h.get? i2=some o/\∀v,o.data≠.cell v)
 keep:∀k h h',(T1 k h->(∀o,h.get? i1=some o->h'.get? i1=some o)->T1 k h')/\(T2 k h->(∀o,h.get? i2=some o->h'.get? i2=some o)->T2 k h')
 there:∀H xs ys,Sq H xs ys->H l1≠none/\H l2≠none
 vals:∀(X:Cx),X.K=K->∀A3 Y H s xs ys,Ab X A3 Y H s->Sq H xs ys->i1≠l1->i2≠l2->∃us vs,Aq xs us/\Aq ys vs/\(∀xs' ys',Sq H xs' ys'->xs'=xs/\ys'=ys)/\∃P1 P2:Nat->Heap->Prop,C8 P w i1 l1 us P1/\C8 P w i2 l2 vs P2/\
  (∀k,T1 k s.heap->P1 k s.heap)/\(∀k,T2 k s.heap->P2 k s.heap)/\∀k h,(P1 k h->T1 k h)/\(P2 k h->T2 k h)
def nd5(h:[a,b,c,d,e].Nodup):(a≠b/\a≠c/\a≠d/\a≠e)/\(b≠c/\b≠d/\b≠e)/\(c≠d/\c≠e)/\d≠e:=by
 simpa only[Fe,AK,DC,or_false,not_or,List.nodup_nil,and_true,not_false_eq_true] using h
def qn(h:x∈[a,b,c,d,e]):x=a\/x=b\/x=c\/x=d\/x=e:=by
 simpa only[AK,DC,or_false] using h
def nm5(h:x∉[a,b,c,d,e]):x≠a/\x∉[a,c,d,e]:=by
 simp only[AK,DC,or_false,not_or] at h ⊢;exact⟨h.1,h.1,h.2.2⟩
def nm4(h:x≠a)(e:x≠b)(g:x≠c)(f:x≠d):x∉[a,b,c,d]:=by
 simp only[AK,DC,or_false,not_or];exact⟨h,e,g,f⟩
def qo(h:x∈[a,c,d,e]):x∈[a,b,c,d,e]:=by
 simp only[AK,DC,or_false] at h ⊢;rcases h with r | r | r | r
 ·exact .inl r
 ·exact .inr (.inr (.inl r))
 ·exact .inr (.inr (.inr (.inl r)))
 ·exact .inr (.inr (.inr (.inr r)))
section
variable{a b c d e:Addr}
def in1:a∈[a,b,c,d,e]:=.head _
def in2:b∈[a,b,c,d,e]:=.tail _ (.head _)
def in3:c∈[a,b,c,d,e]:=.tail _ (.tail _ (.head _))
def in4:d∈[a,b,c,d,e]:=.tail _ (.tail _ (.tail _ (.head _)))
def in5:e∈[a,b,c,d,e]:=.tail _ (.tail _ (.tail _ (.tail _ (.head _))))
def jN{P:Addr->Prop}(g:P a)(h:P b)(f:P c)(i:P d)(g:P e){x:Addr}(h:x∈[a,b,c,d,e]):P x:=by
 rcases qn h with rfl | rfl | rfl | rfl | rfl<;>assumption
def nf{u:Array Value}(v:Option Value)(e:Data.fields u=.cell v):False:=Data.noConfusion e
def ns{u:Array Value}{n:Nat}(v:Option Value)(e:Data.seq u n=.cell v):False:=Data.noConfusion e
def zap{i h:Addr}(f:[a,b,c,d,e].Nodup)(g:∀x∈[a,b,c,d,e],i≠x/\h≠x):ZAp a b c d e i h:=
 have f:=nd5 f
 {f.1.1,f.1.2.1,f.1.2.2.1,f.1.2.2.2,f.2.1.1,f.2.1.2.1,f.2.1.2.2,f.2.2.1.1,f.2.2.1.2,f.2.2.2,(g a in1).1,(g c in3).1,(g e in5).1,(g a in1).2,(g c in3).2,(g d in4).2}
end
open H in
def jO{P:Program}{w:World}{K:FG}{a:List Expr}{x1}{pos:Pos}{l1 l2 z TI TO m A:Addr}{c:Hp->List V->List V->Prop}{e f:Nat->Heap->Prop}(d:ZW P w K l1 l2 m A c e f)(nd:[z,TI,TO,m,A].Nodup):EY P w K (.Tuple a x1 pos) (Izp c) [z,TI,TO,m,A] z (λi h=>IsZip h z TI TO .none/\IsPair h TI (.ref m) (.ref A)/\(∃a b,IsPair h TO a b)/\e i h/\f i h) where
 mem:=in1
 obj:=λi h r b f=>by
  obtain⟨g,l,⟨_,_,G⟩,B,M⟩:=r;exact jN (P:=λb=>∃o,h.get? b=some o/\∀v,o.data≠.cell v) {_,g,nf} {_,l,ns} {_,G,ns} ((d.obj i h).1 B) ((d.obj i h).2 M) f
 keep:=λi h j r q=>by
  obtain⟨g,l,⟨a,b,G⟩,B,M⟩:=r;exact{q _ in1 _ g,q _ in2 _ l,{a,b,q _ in3 _ G},(d.keep i h j).1 B (q _ in4),(d.keep i h j).2 M (q _ in5)}
 item:=by
  intro X hP hw hK hc i A3 s Y H E I J r hg;subst hP hw;obtain⟨U,Q,x,y,W,C,hy⟩:=hg;obtain⟨g,l,⟨a,b,G⟩,B,M⟩:=r;obtain⟨n1,n2⟩:=d.there H U Q W;have O:∀c∈[z,TI,TO,m,A],l1≠c/\l2≠c:=λc f=>{λe=>n1 ((congrArg H e).trans (J c f).1),λe=>n2 ((congrArg H e).trans (J c f).1)}
  obtain⟨us,vs,ru,rv,inj,P1,P2,W1,W2,p1,p2,pt⟩:=d.vals X hK A3 Y H s U Q I W (O m in4).1.symm (O A in5).2.symm;obtain⟨u,n,rx⟩:=ru.get C;obtain⟨v,Z,ry⟩:=rv.get hy;have D:=zap nd O;have R:s.TypeIs (.ref z) "zip":={_,g,rfl};unfold pyNext;refine Ac (wpAny_attempt (wpAny_callSpecial?_slot (name:=Str.ofString "__next__") R F.slot_zip_next (Ev F.slot_zip_next R F.entry_zip_next (qf W1 W2 D g l G (p1 i B) (p2 i M) n Z λj N a2 a3 a4 a5 n Z=>An ?_) (F.args_zip_next_1 _))));refine{_,rfl,wpAny_letOwnedTupleGo_zip (s:={ s with heap:=j }) N λg2 zz n=>?_};have n:Heap.SameBut z j g2:=n;have N:∀{c:Addr} {o:Obj},s.heap.get? c=some o->c≠s.heap.objs.size:=λe=>Bk (Heap.lt_size e)
  have k2:∀b o,b∉[z,TI,TO,m,A]->s.heap.get? b=some o->g2.get? b=some o:=λb o f q=>by
   exact n.extBut b o (nm5 f).1 (Z b o (nm5 f).2 q)
  have kTI:g2.get? TI=_:=n.extBut TI _ D.zTI.symm (Z TI _ (nm4 D.zTI.symm D.io D.I1 D.I2) l);have tt:IsTup g2 s.heap.objs.size [u,v].toArray/\NoD g2 s.heap.objs.size:={{_,n.extBut _ _ (N g).symm a5,rfl,_,rfl},{_,n.extBut _ _ (N g).symm a5,rfl}};refine{.ref s.heap.objs.size,_,I.turnedT (t':=s.toks) (p:=s.heap.objs.size) (vs:=[x,y]) J k2 (Am _) (.cons rx (.cons ry .nil)) (by show 2<=sizeLine;decide) tt.1 tt.2,rfl,{_,x,y,I.hok.fresh (Am _),rfl,rfl,λu x v=>by
   obtain⟨y,e2⟩:=inj u x v;rw[y,e2];exact⟨C,hy⟩},{zz,kTI,{_,_,n.extBut _ _ D.zTO.symm a2},(d.keep (i+1) j g2).1 ((pt (i+1) j).1 a3) λo e=>n.extBut _ o D.z1.symm e,(d.keep (i+1) j g2).2 ((pt (i+1) j).2 a4) λo e=>n.extBut _ o D.z2.symm e},λb f=>?_}
  have n:b≠s.heap.objs.size:=jN (P:=λb=>b≠s.heap.objs.size) (N g) (N l) (N G)
   (let ⟨_,e,_⟩:=(d.obj i s.heap).1 B;N e) (let ⟨_,e,_⟩:=(d.obj i s.heap).2 M;N e) f
  rw[af n];exact(J b f).1
 done:=by
  intro X hP hw hK hc i A3 s Y H E I J r hg;subst hP hw;obtain⟨U,Q,W,C⟩:=hg;obtain⟨g,l,⟨a,b,G⟩,B,M⟩:=r;obtain⟨n1,n2⟩:=d.there H U Q W;have O:∀c∈[z,TI,TO,m,A],l1≠c/\l2≠c:=λc f=>{λe=>n1 ((congrArg H e).trans (J c f).1),λe=>n2 ((congrArg H e).trans (J c f).1)}
  obtain⟨us,vs,ru,rv,inj,P1,P2,W1,W2,p1,p2,pt⟩:=d.vals X hK A3 Y H s U Q I W (O m in4).1.symm (O A in5).2.symm;have D:=zap nd O;have R:s.TypeIs (.ref z) "zip":={_,g,rfl};have a:us[i]?=none\/vs[i]?=none:=by
   rcases C with C | C
   ·exact .inl (List.getElem?_eq_none (by rw[<-ru.length];exact C))
   ·exact .inr (List.getElem?_eq_none (by rw[<-rv.length];exact C))
  unfold pyNext;refine Ac (wpAny_attempt (wpAny_callSpecial?_slot (name:=Str.ofString "__next__") R F.slot_zip_next (Ev F.slot_zip_next R F.entry_zip_next (qg (I.ok.hd hc) W1 W2 D g l G (p1 i B) (p2 i M) a λj e Z c=>?_) (F.args_zip_next_1 _))));obtain⟨o,d,a⟩:=c;refine Ac (wpAny_isInstance (T:="StopIteration") (b:=true) ⟨o,d,a⟩ isSubtype_stop (An {rfl,I.turnedF J λb o f q=>Z b o (λn=>f (qo n)) q}))
 self:=λ_ _ _ _ _ r h=>wpAny_pyIter_zip r.1 h
def Iq(a b:Addr):Hp->List V->List V->Prop:=λH xs ys=>H a=some (.tup xs)/\H b=some (.tup ys)
def Ir(a b:Addr):Hp->List V->List V->Prop:=λH xs ys=>Rd H a (.lst xs)/\Rd H b (.lst ys)
def qq{P:Program}{w:World}{K:FG}{b a c d:Addr}:ZW P w K b a c d (Iq b a) (λk h=>h.IsTupleIter c b k) (λk h=>h.IsTupleIter d a k) where
 obj:=λk h=>{λ⟨o,a,c,d⟩=>{o,a,λv z=>by rw[d] at z;cases z},λ⟨o,a,c,d⟩=>{o,a,λv z=>by rw[d] at z;cases z}}
 keep:=λk h b=>{λa q=>a.at q,λa q=>a.at q}
 there:=λH b a q=>{(λz=>by rw[q.1] at z;cases z),(λz=>by rw[q.2] at z;cases z)}
 vals:=λX d c Y H s b a I q g c=>by
  obtain⟨us,l,d,_⟩:=I.tuple (AN.of q.1);obtain⟨f,i,j,_⟩:=I.tuple (AN.of q.2);exact{us,f,l,i,λe b a=>{I.tuple_inj (AN.of a.1) (AN.of q.1),I.tuple_inj (AN.of a.2) (AN.of q.2)},_,_,C8.tup g,C8.tup c,λk z=>⟨z,d⟩,λk z=>⟨z,j⟩,λk h=>{λz=>z.1,λz=>z.1}}
def qr{P:Program}{w:World}{K:FG}{b a c d:Addr}:ZW P w K b a c d (Ir b a) (λk h=>h.IsListIter c b k) (λk h=>h.IsListIter d a k) where
 obj:=λk h=>{λ⟨o,a,c,d⟩=>{o,a,λv z=>by rw[d] at z;cases z},λ⟨o,a,c,d⟩=>{o,a,λv z=>by rw[d] at z;cases z}}
 keep:=λk h b=>{λa q=>a.at q,λa q=>a.at q}
 there:=λH b a q=>{(λz=>by rcases q.1 with e | ⟨_,e⟩<;>(rw[e] at z;cases z)),(λz=>by rcases q.2 with e | ⟨_,e⟩<;>(rw[e] at z;cases z))}
 vals:=λX d c Y H s b a I q g c=>by
  obtain⟨us,l,d,_⟩:=I.list (.inl q.1);obtain⟨f,i,j,_⟩:=I.list (.inl q.2);exact{us,f,l,i,λe b a=>{I.list_inj (.inl a.1) (.inl q.1),I.list_inj (.inl a.2) (.inl q.2)},_,_,C8.lst g,C8.lst c,λk z=>⟨z,d.isList⟩,λk z=>⟨z,j.isList⟩,λk h=>{λz=>z.1,λz=>z.1}}
section
variable{X:Cx}{elts:List Expr}{x1:Nat}{tpos:Pos}
def qs(n:Nat):[n+4,n+2,n+3,n,n+1].Nodup:=by
 simp only[Fe,AK,DC,or_false,not_or,List.nodup_nil,and_true,not_false_eq_true];omega
def jP{b n:Nat}(h:b∈[n+4,n+2,n+3,n,n+1]):n<=b:=by
 simp only[AK,DC,or_false] at h;omega
def KC(ta:TA):TI:=λY H R=>ta Y H λvs H1=>∃a b xs ys,vs=[.ref a,.ref b]/\((Iq a b H1 xs ys/\R (Izp (Iq a b)) H1)\/(Ir a b H1 xs ys/\R (Izp (Ir a b)) H1))
def qt{b a:Expr}{c:TA}{p pos:Pos}(g:Gl X "zip")(i:X.mg "zip" = none)(f:PA X [b,a] c)(j:autoParam (starEach [b,a] X.env=(false,eval b X.env)::starEach [a] X.env) uR)(d:autoParam (starEach [a] X.env=[(false,eval a X.env)]) uR):PI X (.Tuple elts x1 tpos) (.Call (.Name "zip" p) [b,a] [] pos) (KC c):=by
 intro e s Y H R I h;refine Call_ (cc I g i boot_zip (PyProof.Rows.callWith_type1 (ai (f pos e s Y H _ I h) λus c hI122=>?_) j (by rw[d];rfl)));obtain⟨m,H1,I1,f,d⟩:=hI122;obtain⟨a,b,h,g,rfl,q⟩:=d;cases f with
 | cons r d=>
   cases d with
   | cons r' d=>
     cases d;cases r;cases r';have o:=qs c.heap.objs.size;have p:∀b∈[c.heap.objs.size+4,c.heap.objs.size+2,c.heap.objs.size+3,c.heap.objs.size,c.heap.objs.size+1],Da X e H1 b:=λb f=>I1.fpOk (jP f) (I1.hok.fresh (jP f))
     rcases q with⟨d,q⟩ | ⟨d,q⟩
     ·obtain⟨us,u,h,_⟩:=I1.tuple (AN.of d.1)
      obtain⟨m,r,g,_⟩:=I1.tuple (AN.of d.2);refine qk (show c.heap.IsTuple a us.toArray from h) (show c.heap.IsTuple b m.toArray from g) ?_;obtain⟨e,n,j,l,i,f⟩:=eM "tuple_iterator" c.heap a b;refine wpAny_pyIter_zip (s:={ c with heap:=zC "tuple_iterator" c.heap a b }) e ?_;exact{_,_,_,_,H1,rfl,I1.kept (t':=c.toks) f,jO qq o,{e,n,{_,_,j},{_,l,rfl,rfl},{_,i,rfl,rfl}},p,q}
     ·obtain⟨us,u,h,_⟩:=I1.list (.inl d.1)
      obtain⟨m,r,g,_⟩:=I1.list (.inl d.2);refine qm h.isList g.isList ?_;obtain⟨e,n,j,l,i,f⟩:=eM "list_iterator" c.heap a b;refine wpAny_pyIter_zip (s:={ c with heap:=zC "list_iterator" c.heap a b }) e ?_;exact{_,_,_,_,H1,rfl,I1.kept (t':=c.toks) f,jO qr o,{e,n,{_,_,j},{_,l,rfl,rfl},{_,i,rfl,rfl}},p,q}
variable{S:Type}{W:Wd S}{c:Dx W}{g:Gr}
instance tDB{S:Type}{W:Wd S}(c:Dx W)(f:AY S):TA:=λY H Q=>∃Z st,As c H Y Z/\W.ok st H/\
 Aa (f Z st) (λl st'=>∀vs H',Af W H H'->W.ok st' H'->aa c.K (Av c Y Z) H' l vs->Q vs H') λx st'=>∀H',Af W H H'->W.ok st' H'->c.Ex x st' H'
instance DB(X:Cx){S:Type}{W:Wd S}(c:Dx W)(es:List Expr)(f:AY S):Prop:=PA X es (tDB c f)
def wv:DB X c [] (F8 S):=bg.imp λY H Q ⟨Z,b,R,a,w⟩=>w [] H Af.refl a (aa.nil.mpr rfl)
def ww(h:DE X c .B e f)(b:DB X c es r)(a:autoParam 's' uR):DB X c (e::es) (Cp S f r):=
 (aT h b a).imp λY H Q hI35=>by
  obtain⟨Z,a,R,b,w⟩:=hI35;refine{Z,a,R,b,aj (ae.mp w) (λd a q v H1 e f z=>?_) λx a q=>q};refine{Z,a,R.ext b e,f,aj (ae.mp q) (λl b q i H2 h a j=>?_) λx b q H2 h a=>q H2 (e.trans h) a};have z:Is c.K (Av c Y Z) H1 d v:=z;exact q (v::i) H2 (e.trans h) a (aa.cons.mpr {v,i,rfl,z.ext h f (λb n=>n.1),j})
def Du(l m:List D):List D:=List.zipWith (λa b=>.tup [a,b]) l m
instance D.tupL:D->Option (List D)
 | .tup l=>some l
 | _=>none
theorem D.tupL_eq{d:D}{l:List D}(h:d.tupL=some l):d=.tup l:=by
 cases d with
 | tup m=>cases h;rfl
 | _=>cases h
def JG(l:List D):Option (List D):=match l with
 | [a,b]=>(a.tupL.bind λl=>b.tupL.map (Du l)).or (a.asL.bind λl=>b.asL.map (Du l))
 | _=>none
def jQ{i:Nat}(h:(Du l m)[i]?=some d):∃x y,l[i]?=some x/\m[i]?=some y/\d=.tup [x,y]:=by
 unfold Du at h;rw[List.getElem?_zipWith] at h;cases q:l[i]? with
 | none=>rw[q] at h;simp at h
 | some x=>
   cases a:m[i]? with
   | none=>rw[q,a] at h;simp at h
   | some y=>rw[q,a] at h;cases h;exact⟨x,y,rfl,rfl,rfl⟩
def qu{i:Nat}(h:(Du l m).length<=i):l.length<=i\/m.length<=i:=by
 unfold Du at h;rw[List.length_zipWith] at h;omega
def jR(v:∀(a:Dx W) f e H2,A9 (Av c Y Z) (Av a f e) H1 H2->Sq H2 i h)(d:aa c.K (Av c Y Z) H1 l i)(q:aa c.K (Av c Y Z) H1 m h):Hm c Y Z H1 (Izp Sq) (Du l m):=by
 intro a b f e H2 p k R2 n j;have o:Sq H2 i h:=v a f e H2 k;have p:aa c.K (Av a f e) H2 l i:=d.mono k;have r:aa c.K (Av a f e) H2 m h:=q.mono k;refine{λd j=>?_,λb=>{i,h,o,by rw[<-p.length,<-r.length];exact qu b}};obtain⟨x,y,s,l,rfl⟩:=jQ j;obtain⟨q,b,m⟩:=p.get s;obtain⟨j,d,n⟩:=r.get l;refine{⟨i,h,q,j,o,b,d⟩,?_};rintro p H3 ⟨u,r,s,l,rfl,rfl,p⟩;obtain⟨r,s⟩:=p i h o;rw[b] at r;cases r;rw[d] at s;cases s;have p:BH H2 (Ad H2 u (.tup [q,j])):=λb o d=>by rw[af (au d l)];exact d
 have r:A9 (Av a f e) (Av a f e) H2 (Ad H2 u (.tup [q,j])):=bw (λb o d _=>p b o d) λb o a d=>{a,p b o d}
 exact{p,Is.tup aq (aa.cons.mpr {_,_,rfl,m.mono r,aa.one (n.mono r)})}
open H in
def wx(e:Gl X "zip")(j:X.mg "zip" = none)(b:DB X c [d,h] f)(i:autoParam (starEach [d,h] X.env=(false,eval d X.env)::starEach [h] X.env) uR)(a:autoParam (starEach [h] X.env=[(false,eval h X.env)]) uR):DI X c (.Tuple elts x1 tpos) (.Call (.Name "zip" p) [d,h] [] pos) (FI S JG f):=
 (qt e j b i a).imp λY H R hI36=>by
  obtain⟨Z,e,a,b,w⟩:=hI36;refine{Z,e,a,b,aj (ae.mp w) (λl a q b H1 e n z=>?_) λx a q=>q};obtain⟨m,d,q⟩:=ar.mp q;cases l with
  | nil=>cases d
  | cons b r=>cases r with
    | nil=>cases d
    | cons a r=>cases r with
      | cons _ _=>cases d
      | nil=>
        have d:(b.tupL.bind λl=>a.tupL.map (Du l)).or (b.asL.bind λl=>a.asL.map (Du l))=some m:=d;obtain⟨v,r,h,A,f⟩:=aa.cons.mp z;obtain⟨v',r',C,f,B⟩:=aa.cons.mp f;cases s:(b.tupL.bind λl=>a.tupL.map (Du l)) with
        | some x=>
          rw[s] at d;cases d;obtain⟨l,x,y⟩:=Option.bind_eq_some_iff.mp s;obtain⟨I,v,rfl⟩:=Option.map_eq_some_iff.mp y;rw[D.tupL_eq x] at A;rw[D.tupL_eq v] at f;obtain⟨a,m,u,s0,i⟩:=Is.tup_iff.mp A;obtain⟨b,o,r,p,j⟩:=Is.tup_iff.mp f;rw[C,aa.nil.mp B,u,r] at h;exact{a,b,m,o,h,.inl {⟨s0,p⟩,q _ H1 e n (jR (λz G E H2 k=>{k.tup a m s0,k.tup b o p}) i j)}}
        | none=>
          rw[s] at d;obtain⟨l,x,y⟩:=Option.bind_eq_some_iff.mp d;obtain⟨I,v,rfl⟩:=Option.map_eq_some_iff.mp y;obtain⟨a,m,u,s0,i,d⟩:=Is.asL A x;obtain⟨b,o,r,p,j,l⟩:=Is.asL f v;rw[C,aa.nil.mp B,u,r] at h;exact{a,b,m,o,h,.inr {⟨s0,p⟩,q _ H1 e n (jR (λz G E H2 k=>{d _ _ k,l _ _ k}) i j)}}
end
end L2
namespace HT
open PySem PyProof.Rows
end HT
namespace L2
section
variable{X:Cx}{e st:Expr}{te ts:TE}{p2 pos:Pos}
end
section
variable{X:Cx}{S:Type}{W:Wd S}{c:Dx W}{g ga gb:Gr}{a b:Expr}{fa fb:Fn S}{pos p2:Pos}
abbrev FnO(S:Type):=Ae->S->Ap S (Option Int)
instance tDO{S:Type}{W:Wd S}(c:Dx W)(f:FnO S):TO:=λY H Q=>∃Z st,As c H Y Z/\W.ok st H/\
 Aa (f Z st) (λo st'=>∀H',Af W H H'->W.ok st' H'->Q o H') λx st'=>∀H',Af W H H'->W.ok st' H'->c.Ex x st' H'
instance DO(X:Cx){S:Type}{W:Wd S}(c:Dx W)(e:Option Expr)(f:FnO S):Prop:=PO X e (tDO c f)
def PO.imp(h:PO X e t)(i:∀Y H Q,t' Y H Q->t Y H Q):PO X e t':=λd s Y H Q I q=>h d s Y H Q I (i Y H Q q)
instance pNo(S:Type):FnO S:=λ_ st=>.ok none st
instance D.int?:D->Option Int
 | .int i=>some i
 | _=>none
instance pSo(S:Type)(f:Fn S):FnO S:=λZ st=>(f Z st).bind λd st1=>(Aw d.int? st1).bind λi st2=>.ok (some i) st2
def wy:DO X c none (pNo S):=iO.imp λY H Q ⟨Z,e,R,d,w⟩=>w H Af.refl d
def wz(h:DE X c g a fa):DO X c (some a) (pSo S fa):=(iP h).imp λY H Q hI37=>by
 obtain⟨Z,d,R,e,w⟩:=hI37;refine{Z,d,R,e,aj (ae.mp w) (λd f q v H1 e h z=>?_) λx f q=>q};obtain⟨i,l,q⟩:=ar.mp (ae.mp q);cases d with
 | int j=>cases l;exact{_,Is.int_iff.mp (show Is c.K 'w' H1 (.int i) v from z.toR),q H1 e h}
 | _=>cases l
instance cutD(xs:List D)(lo hi:Option Int):List D:=(xs.drop (HT.sIx xs.length 0 lo)).take (HT.sIx xs.length xs.length hi-HT.sIx xs.length 0 lo)
def gh{K:FG}{A:Addr->Prop}{H:Hp}{l:List D}{e:List V}{d f:Option Int}(h:aa K A H l e):aa K A H (cutD l d f) (Ej e d f):=by
 unfold cutD Ej;rw[h.length];exact(h.drop _).take _
theorem jS:∀{l:List D} {n:Nat},D.immL l=true->D.immL (l.take n)=true
 | [],_,_=>by simp[D.immL]
 | _::_,0,_=>by simp[D.immL]
 | x::l,n+1,m=>by
   have m':x.imm=true/\D.immL l=true:=by simpa [D.immL] using m
   simp only[List.take_succ_cons,D.immL,m'.1,jS m'.2,EG]
theorem jT:∀{l:List D} {n:Nat},D.immL l=true->D.immL (l.drop n)=true
 | [],_,_=>by simp[D.immL]
 | _::_,0,m=>m
 | x::l,n+1,m=>by
   have m':x.imm=true/\D.immL l=true:=by simpa [D.immL] using m
   exact jT (l:=l) (n:=n) m'.2
def gk{l:List D}{d e:Option Int}(m:D.immL l=true):D.immL (cutD l d e)=true:=jS (jT m)
def Hv(lo hi:Option Int):D->Option D
 | .lst l=>if D.immL l=true then some (.lst (cutD l lo hi)) else none
 | .fl l=>if D.immL l=true then some (.lst (cutD l lo hi)) else none
 | .tup l=>if D.immL l=true/\¬(HT.sIx l.length 0 lo=0/\HT.sIx l.length l.length hi=l.length) then some (.tup (cutD l lo hi)) else none
 | _=>none
def Iu(S:Type)(f:Fn S)(lo hi:FnO S):Fn S:=λZ st=>(f Z st).bind λd st1=>(lo Z st1).bind λl st2=>(hi Z st2).bind λh st3=>Aw (Hv l h d) st3
open H in
def wA{lo hi:Option Expr}{fl fh:FnO S}(hK:c.K=X.K)(ha:DE X c ga a fa)(hl:DO X c lo fl)(hh:DO X c hi fh):DE X c g (.Subscript a (.Slice lo hi none p2) pos) (Iu S fa fl fh):=
 (iQ (iW.or oh) ha hl hh).imp λY H Q hI38=>by
  obtain⟨Z,st,R,ok,w⟩:=hI38;refine{Z,st,R,ok,aj (ae.mp w) (λd st1 q v H1 e ok1 z=>?_) λx st1 q=>q};refine{Z,st1,R.ext ok e,ok1,aj (ae.mp q) (λl st2 q H2 e2 ok2=>?_) λx st2 q H2 e2 ok2=>q H2 (e.trans e2) ok2};have R2:=(R.ext ok e).ext ok1 e2;refine{Z,st2,R2,ok2,aj (ae.mp q) (λh st3 q H3 e3 ok3=>?_) λx st3 q H3 e3 ok3=>q H3 ((e.trans e2).trans e3) ok3};obtain⟨dd,e4,q⟩:=ar.mp q;have ez:Af W H1 H3:=e2.trans e3;have z3:Is c.K 'w' H3 d v:=z.toR.ext ez ok1;have R3:=R2.ext ok2 e3;have et:Af W H H3:=e.trans ez;cases d with
  | lst m=>
    have e4:(if D.immL m=true then some (D.lst (cutD m l h)) else none)=some dd:=e4;split at e4
    ·rename_i im
     cases e4;obtain⟨p,vs,ev,n,s0,i⟩:=Is.lst_iff.mp z3;refine .inl {p,vs,ev,.of s0,λr hr=>?_};exact q _ _ (et.trans (Af.laid hr)) (aJ ok3 hr) ((AB.val R3 (AB.lst ok3 hr (λ_ n=>n) (gk im) (gh i)) g).back et ok3)
    ·cases e4
  | fl m=>
    have e4:(if D.immL m=true then some (D.lst (cutD m l h)) else none)=some dd:=e4;split at e4
    ·rename_i im
     cases e4;obtain⟨p,vs,ev,s0,i,_⟩:=Is.asL z3 rfl;refine .inl {p,vs,ev,.inl s0,λr hr=>?_};exact q _ _ (et.trans (Af.laid hr)) (aJ ok3 hr) ((AB.val R3 (AB.lst ok3 hr (λ_ n=>n) (gk im) (gh i)) g).back et ok3)
    ·cases e4
  | tup m=>
    have e4:(if D.immL m=true/\¬(HT.sIx m.length 0 l=0/\HT.sIx m.length m.length h=m.length) then some (D.tup (cutD m l h)) else none)=some dd:=e4;split at e4
    ·rename_i im
     cases e4;obtain⟨p,vs,ev,s0,i⟩:=Is.tup_iff.mp z3;refine .inr {p,vs,ev,.of s0,by rw[<-i.length];exact im.2,λr hr=>?_};exact q _ _ (et.trans (Af.laid hr)) (aJ ok3 hr) ((AB.val R3 (AB.tup ok3 hr (λ_ n=>n) (gk im.1) (gh i)) g).back et ok3)
    ·cases e4
  | _=>cases e4
def Eo:List D->Option (List Int)
 | []=>some []
 | .int i::l=>(Eo l).map λr=>i::r
 | _=>none
theorem jU{K:FG}{A:Addr->Prop}{H:Hp}:∀{l:List D} {d:List V} {ns:List Int},Eo l=some ns->aa K A H l d->d=ns.map V.int
 | [],d,ns,e,h=>by cases e;rw[aa.nil.mp h];rfl
 | .int i::l,d,ns,e,h=>by
   unfold Eo at e;cases q:Eo l with
   | none=>rw[q] at e;cases e
   | some r=>
     rw[q] at e;cases e;obtain⟨v,r',i,f,j⟩:=aa.cons.mp h;rw[i,Is.int_iff.mp f,jU q j];rfl
 | .non::_,_,_,e,_=>by cases e
 | .bl _::_,_,_,e,_=>by cases e
 | .str _::_,_,_,e,_=>by cases e
 | .tup _::_,_,_,e,_=>by cases e
 | .lst _::_,_,_,e,_=>by cases e
 | .dct _ _::_,_,_,e,_=>by cases e
 | .fl _::_,_,_,e,_=>by cases e
 | .fd _ _::_,_,_,e,_=>by cases e
def JH(S:Type):Ax S:=λ_ _=>.bad
def wB:DS X c s (JH S):=λd s Y H D I ⟨_,_,_,_,w⟩=>w.elim
end
section
variable{S:Type}
def JI(S:Type)(i j:Nat)(f:AY S):Ax S:=λZ st=>(f Z st).bind λl st1=>match l with
 | [d,e]=>(Aw (put Z i d) st1).bind λZ1 st2=>(Aw (put Z1 j e) st2).bind λZ2 st3=>.ok (.nx Z2) st3
 | _=>.bad
open H in
def bV{i:Nat}(h:put Z i d=some Z'):i<Z.length/\Z'=Z.set i (.bor d):=by
 unfold put at h;split at h
 ·rename_i a;cases h;exact⟨a,rfl⟩
 ·cases h
open H in
def wC{i j:Nat}{x y:Str}{kt k2 pt2}(p:X.calm=true)(n:X.N.Nodup)(m:X.N[i]?=some x)(e:X.N[j]?=some y)(d:i≠j)(h:X.env.scope.names.lookup x=some .local)(g:X.env.scope.names.lookup y=some .local)(l:DB X c [a,b] f)(o:swappedStores [.Tuple [.Name x px,.Name y py] kt pt] (.Tuple [a,b] k2 pt2) X.env=pure (some [x,y]))(q:autoParam (swapsWithSole [.Tuple [.Name x px,.Name y py] kt pt] (.Tuple [a,b] k2 pt2) pos.line X.env=pure false) uR) :
 DS X c (.Assign [.Tuple [.Name x px,.Name y py] kt pt] (.Tuple [a,b] k2 pt2) pos) (JI S i j f):=
 (nv p n m e d h g l o q).imp λD Y H hI39=>by
  obtain⟨Z,a,R,b,w⟩:=hI39;refine{Z,a,R,b,aj (ae.mp w) (λl d q f H1 e a z=>?_) λx d q g e f=>q g (e.f0 R) f};split at q
  ·rename_i d e'
   obtain⟨v,r,g,l,f⟩:=aa.cons.mp z;obtain⟨v',r',h,f,j⟩:=aa.cons.mp f;rw[h,aa.nil.mp j] at g;obtain⟨n,h,q⟩:=ar.mp (ae.mp q);obtain⟨n,j,q⟩:=ar.mp (ae.mp q);obtain⟨o,rfl⟩:=bV h;obtain⟨n,rfl⟩:=bV j;have h:=(R.ext b e).setB o l;have j:A9 (Av c Y Z) (Av c (Y.set i (some v)) (Z.set i (.bor d))) H1 H1:=Be.keepT (R.ext b e) a aZ;have R2:=h.setB n (f.mono j);exact{v,v',g,q _ _ ((Af.frm e).trans (aZ.trans aZ)) a R2}
  ·exact q.elim
end
section
variable{X:Cx}{S:Type}{W:Wd S}{c:Dx W}{g ga gb:Gr}{a b:Expr}{fa fb:Fn S}{pos p2:Pos}
def BO(a b:D):Option D:=(AR (λi j=>.int (i+j)) a b).or ((Im a b).or ((Io a b).or (Ip a b)))
def jV:AX X (binaryOp .Add) (λx y H Q=>Ec (λi j=>.int (i+j)) x y H Q\/(Hi x y H Q\/(Hg X.K x y H Q\/Hu X.K x y H Q))):=cW.or (oD.or (oi.or qd))
def jW{K:FG}(d:c.K=K):Bu c (λx y H Q=>Ec (λi j=>.int (i+j)) x y H Q\/(Hi x y H Q\/(Hg K x y H Q\/Hu K x y H Q))) BO:=pI.or (pW.or ((pX d).or qe))
instance D.seq?:D->Option (List D)
 | .tup l=>some l
 | .lst l=>some l
 | _=>none
def wD{tg e:Expr}{f:Fn S}(hK:c.K=X.K)(h:DE X c .B e f):DI X c tg e (Ek S D.seq? f):=by
 intro A3 s Y H R I q;obtain⟨Z,st,R0,ok,w⟩:=q;unfold Ek at w;cases q:f Z st with
 | bad=>rw[q] at w;exact w.elim
 | exc x st1=>
   refine jo (tg:=tg) hK h A3 s Y H R I {Z,st,R0,ok,?_};unfold Ek;rw[q] at w ⊢;exact w
 | ok d st1=>
   rw[q] at w;cases d with
   | tup l=>
     refine jo (tg:=tg) hK h A3 s Y H R I {Z,st,R0,ok,?_};unfold Ek;rw[q];exact w
   | lst l=>
     refine pE (tg:=tg) hK h A3 s Y H R I {Z,st,R0,ok,?_};unfold Ek;rw[q];exact w
   | _=>exact w.elim
def GP(S:Type)(i:Nat)(f:Fn S)(o:Int->Int->Int):Ax S:=λZ st=>match rd Z i with
 | some (.int a)=>(f Z st).bind λd st1=>match d with
   | .int b=>(Aw (put Z i (.int (o a b))) st1).bind λZ1 st2=>.ok (.nx Z1) st2
   | _=>.bad
 | _=>.bad
open H in
def wE{i:Nat}{x:Str}{e:Expr}{f:Fn S}{d:Operator}{o:Int->Int->Int}{p:Pos}(n:X.N.Nodup)(l:X.N[i]?=some x)(h:Loc X.env.scope x)(m:PIp X d (ipI o))(q:DE X c .R e f)(j:X.fn x=true\/X.env.scope.names.lookup x=some .local:=by first | exact .inl rfl | exact .inr rfl | assumption) :
 DS X c (.AugAssign (.Name x p) d e pos) (GP S i f o):=
 (nw n l h q m j).imp λD Y H hI40=>by
  obtain⟨Z,d,R,i,w⟩:=hI40;unfold GP at w;split at w
  ·rename_i a0 h
   obtain⟨v,f,n⟩:=R.rd h;refine{v,f,Z,d,R,i,aj (ae.mp w) (λd f q j H1 e h z=>?_) λx f q m e d=>q m (e.f0 R) d};split at q
   ·rename_i f
    obtain⟨m,d,q⟩:=ar.mp (ae.mp q);obtain⟨o,rfl⟩:=bV d;have m:=R.ext i e;have z':Is c.K 'w' H1 (.int f) j:=z.toR;exact{a0,f,Is.int_iff.mp n,Is.int_iff.mp z',q _ _ ((Af.frm e).trans aZ) h (m.setB o (Is.int_iff.mpr rfl))}
   ·exact q.elim
  ·exact w.elim
def JJ:List D->Ap Unit D:=λ_=>.bad
def qv{P:Program}{w:World}{K:FG}{e:Str->Option Value}{d:Heap}{f:Addr}{h:FuncData}{i:List Str}{k:Nat}:BS P w K e d CX0 k f h i (Ed K JJ):=
 {λf H Q E ⟨_,_,h⟩=>h.elim,λA d s H e us f Q E _ _ _ _ ⟨_,_,h⟩=>h.elim}
def wF{id:String}{x:Str}{p pos:Pos}{e:Expr}{es:List Expr}{r:List V->Hp->VK->Prop}{o:List D->Option D}{f:AY S}(q:DA X c (e::es) f)(m:Co X (.builtin id) r)(s:Ct c r o)(l:Gl X x)(n:X.mg x=none)(r:bootBuiltins x=some (.builtin id))(j:autoParam (x≠"__name__") uD)(d:autoParam 'u' uD)(i:autoParam 's' uR)(h:autoParam 'i' uR):DE X c g (.Call (.Name x p) (e::es) [] pos) (fA S o f):=
 jk (id:=id) (cZ m l n r q j d i h) rfl s
def wG{T:String}{x:Str}{p pos:Pos}{e:Expr}{es:List Expr}{r:List V->Hp->VK->Prop}{o:List D->Option D}{f:AY S}(q:DA X c (e::es) f)(m:Co X (.type T) r)(s:Ct c r o)(l:Gl X x)(n:X.mg x=none)(r:bootBuiltins x=some (.type T))(j:autoParam (x≠"__name__") uD)(d:autoParam 'u' uD)(i:autoParam 's' uR)(h:autoParam 'i' uR):DE X c g (.Call (.Name x p) (e::es) [] pos) (fA S o f):=
 jk (id:=T) (iL m l n r q j d i h) rfl s
end
end L2
namespace PySem
namespace F
def lk_list_keys:typeLookup (.type "list") "keys" = pure none:=by rw[typeLookup_type,builtinLookup_eq_fast];kernel_rfl
end F
def qw(e:PlainL s.heap a i)(p:A.handled=none)(h:∀f j,(∀b o,s.heap.get? b=some o->f.get? b=some o)->Q none { s with heap:=f,toks:=j }) :
 wpAny 'r' A (getAttr? (.ref a) "keys") Q E s:=by
 obtain⟨⟨c,b,d,n⟩,k,l,m,c,b⟩:=e;simp only at m b c;subst m b c;obtain⟨e,g,d,j,m⟩:=s;have c:∀b,(⟨e,g,d,b,m⟩:Shared).TypeIs (.ref a) "list":=λ_=>{_,l,rfl}
 have d:=sub_AttributeError;have e:=F.slot_list_getattribute.lookup;have d:=F.slot_list_getattribute.bind (.ref a);have d:=am_list_getattr_none;unfold getAttr? getAttrBy? getAttrBy;repeat (any_goals (first | assumption | exact c _ | ((with_reducible show wpAny _ _ (call (Value.builtin "list.__getattribute__") _ _) _ _ _);refine call_meets F.slot_list_getattribute (c _) am_entry_list_getattribute (F.args_list_getattribute_2 _ _) (meets_getattribute_miss_list a i k n "keys" _ F.lk_list_keys (by decide +kernel) (by size_fits)) {l,p,λf b e a=>?_}) | wp_step))
 obtain⟨d,u',c⟩:=a.there;show wpAny _ _ (getattributeRaised _ _ _ _ _ _ _) _ _ _;unfold getattributeRaised;repeat (any_goals (first | assumption | wp_step))
 exact h f b a.keeps
end PySem
namespace PySem.F
def plain_upd_loop:plainId "dict.update.loop" = true:=by decide +kernel
def entry_upd_loop:entryFor table "dict.update.loop" = some Builtin.«dict.update.loop»:=entryFor_of_fast (by kernel_rfl)
end PySem.F
namespace L2
def Fj(H:Hp):List V->List (List Ak×V)->Prop
 | [],ps=>ps=[]
 | v::vs,ps=>∃t b k x r,ps=(k,x)::r/\v=.ref t/\H t=some (.tup [.ref b,x])/\Do H b k/\Fj H vs r
def FL(kvs ps:List (List Ak×V)):List (List Ak×V):=ps.foldl (λacc p=>Bh acc p.1 p.2) kvs
theorem Fj.keep(c:∀u,H d≠some (.tup u))(h:Fj H a ps):Fj (Ad H d o) a ps:=by
 induction a generalizing ps with
 | nil=>exact h
 | cons v a ih=>
   obtain⟨t,b,k,x,r,g,i,d,f,e⟩:=h;exact{t,b,k,x,r,g,i,(af λz=>c _ (z▸d)).trans d,f.keeps λb g q=>(af λz=>c _ (z▸q)).trans q,ih e}
section
variable{X:Cx}{A3:List 'p'}{Y:St}
open H in
def qx(hc:X.calm=true)(hu:X.A.in1.units+2<cLine):∀(n i:Nat) (s:Shared) (H:Hp) (f y:List (List Ak×V)) (t:Tok),vs.length-i=n->i<=vs.length->Ab X A3 Y H s->Da X A3 H it->
 s.heap.IsListIter it a i->H a=some (.lst vs)->H d=some (.dT f)->Fj H (vs.drop i) y->f.length+y.length<sizeLine->Q (.ref d) (Ad H d (.dT (FL f y)))->
 codeAny 'e' X.A.in1 (.builtin "dict.update.loop" {[.ref d,.ref it,.int i t,.none],[]}) (wants (λr E=>r=.none/\EP X A3 Y Q (.ref d) E) X.xe) s:=by
 intro n;induction n with
 | zero=>
   intro i s H f y t Z hi I l Cn B h j hz q;have e:i=vs.length:=Fc hi (Nat.le_of_sub_eq_zero Z);subst e;rw[List.drop_length] at j;have j:y=[]:=j;subst j;obtain⟨its,rv,pl,_⟩:=I.list (AV.of B);obtain⟨v,R,f2,W,f4,f5⟩:=l;refine codeAny_builtin F.entry_upd_loop ?_;rw[Around.under_plainId F.plain_upd_loop _];show wpAny _ X.A.in1.in1 (pyNext (.ref it) >>= λ_=>_) _ _ s;have hl:=rv.length;refine Ac (wpAny_pyNext_list_end (I.ok.hd hc) Cn pl.isList (Array.getElem?_eq_none (BY (A6.trans hl.symm))) λN eb=>?_);have I1:Ab X A3 Y H { s with heap:=N }:=I.turned (t':=s.toks) (λb o g e=>eb b o g e) v R W f4 f5;show wpAny _ X.A.in1.in1 (Builtin.Dict.addKeywords d [] >>= λ_=>ret .none) _ _ _;refine Ac (An (An ?_));refine{rfl,.ref d,H,I1,rfl,?_};have e2:Ad H d (.dT (FL f []))=H:=by
    funext b;by_cases g:b=d
    ·subst g;rw[aq,h];rfl
    ·rw[af g]
   rw[e2] at q;exact q
 | succ n ih=>
   intro i s H f y t Z hi I l Cn B h j hz q;have m:i<vs.length:=Nat.lt_of_sub_eq_succ Z;rw[List.drop_eq_getElem_cons m] at j;obtain⟨tt,b,k,x,r,rfl,ev,ht,g,hr⟩:=j;obtain⟨its,rv,pl,_⟩:=I.list (AV.of B);obtain⟨u,hu',ru⟩:=rv.get (i:=i) (x:=vs[i]) (AU m);rw[ev] at ru;cases (show u=Value.ref tt from ru);obtain⟨v,R,f2,W,f4,f5⟩:=id l;refine codeAny_builtin F.entry_upd_loop ?_;rw[Around.under_plainId F.plain_upd_loop _];show wpAny _ X.A.in1.in1 (pyNext (.ref it) >>= λ_=>_) _ _ s;refine Ac (wpAny_pyNext_list_item Cn pl.isList (x:=.ref tt) (by simpa using hu') λN M sb=>?_);have I1:Ab X A3 Y H { s with heap:=N }:=I.turned (t':=s.toks) (λc o g e=>(sb.2 c g).trans e) v R W f4 f5;obtain⟨ps2,r2,p2,_⟩:=I1.tuple (AN.of ht);obtain⟨o2,C,hc2,n2,hd2⟩:=id p2;obtain⟨U,J,rfl,rk,rx⟩:∃U J,ps2=[U,J]/\Aj (.ref b) U/\Aj x J:=by
    cases r2 with
    | cons p q=>
      cases q with
      | cons p' q'=>cases q';exact{_,_,rfl,p,p'}
   cases (show U=Value.ref b from rk);refine Ac (wpAny_holding (Ac (wpAny_tryCatch ?_)));unfold Builtin.Dict.pairItems;refine Ac (wpAny_typeOf (T:="tuple") ⟨o2,C,hc2⟩ ?_);rw[if_pos 'z'];refine Ac (Ew C hd2 (An ?_));obtain⟨z,hdm,xs,G,dd⟩:=fM I1.hok h;have hz1:xs.length<=sizeLine:=by rw[<-Paired.length G];exact z
   have P:f.length+(r.length+1)<sizeLine:=hz;have hl:(Bh f k x).length<=sizeLine:=Az (df f k x) (Az (Di (FV (AE _)) _) (BC P));show wpAny _ _ (holding [.ref b,J] (dictSet d (.ref b) J)) _ _ _;refine wpAny_holding (wpAny_dictSet_heap (hsz:=hz1) (cF hu) (key_of I1.hok g) dd λh2 dd' hs=>An ?_);have I2:Ab X A3 Y (Ad H d (.dT (Bh f k x))) { s with heap:=h2,toks:=s.toks+(EL X.prog X.w).draws k }:=by
    obtain⟨q,es,ep,hq,h2',h3,h4,_,h5⟩:=dd';refine dg (s:={ s with heap:=N }) (t':=s.toks+(EL X.prog X.w).draws k) I1 (by rw[h];exact True.intro) hs ⟨q,hq⟩ {hl,hdm,_,(G.put k g rx).keeps λc ys ec=>?_,q,es,ep,hq,h2',h3,h4,h5};rw[af (bP ec h (λz=>nomatch z))];exact ec
   have O:it≠d:=λe=>by rw[e,h] at v;cases v
   have nda:a≠d:=bP B h (λz=>nomatch z);have hs:Heap.SameBut d N h2:=hs;refine{plainId_quiet F.plain_upd_loop _,ih (i+1) _ _ (Bh f k x) r _ ((Nat.sub_succ ..).trans (congrArg Nat.pred Z)) m I2 {by rw[af O];exact v,R,f2,W,f4,f5} (M.extBut hs.extBut O) (by rw[af nda];exact B) aq (hr.keep λu e=>by rw[h] at e;cases e) ?_ ?_}
   ·exact Cj (Az (Nat.add_le_add_right (df f k x) _) (BY (Nat.add_right_comm ..))) P
   ·rw[upd_upd];exact q
def wH(m:X.calm=true)(p:X.A.in1.units+2<cLine):Co X (.type "dict") (λl H Q=>∃(a:Addr) (vs:List V) (f:List (List Ak×V)),l=[.ref a]/\H a=some (.lst vs)/\Fj H vs f/\f.length<sizeLine/\∀d,H d=none->Q (.ref d) (Ad H d (.dT (FL [] f)))):=by
 intro A3 s Y H l us Q I r h;obtain⟨a,vs,f,rfl,j,n,v,q⟩:=h;obtain⟨u,rfl,b⟩:=bq r;cases b;have e:X.A.handled=none:=I.ok.hd m;refine callType_codes (Q₁:=λc b=>c=.ref s.heap.objs.size/\b={ s with heap:=s.heap.push { cls:=.type "dict",data:=.dict #[] } }) F.kt_called_dict (F.kt_typeCall_dict_1 _) F.entry_dict_init (kt_code_dict_new _ ⟨rfl,rfl⟩) ?_;rintro c b ⟨rfl,rfl⟩;have g:=I.hok.fresh (Am s.heap.objs.size);have I1:=I.laid (a:=s.heap.objs.size) (o:=.dT []) (h':=s.heap.push { cls:=.type "dict",data:=.dict #[] }) (t':=s.toks) (λ_ _ q=>AM _ q) (Am _) (fO s.heap I.big);have b:({ s with heap:=s.heap.push { cls:=.type "dict",data:=.dict #[] } }:Shared).TypeIs (.ref s.heap.objs.size) "dict":={_,Bi _ rfl,rfl};refine{b,F.args_dict_init_2 _ _,?_};unfold Builtin.«dict.__init__»;refine Ac ?_;unfold Builtin.Dict.selfAndRest;refine Ac (wpAny_notOrdered_dict b ?_);show wpAny _ _ (pure (s.heap.objs.size,[Value.ref a])) _ _ _;refine An ?_;show wpAny _ _ (Builtin.Dict.updateFrom "dict.__init__" s.heap.objs.size (.ref a) [] .none) _ _ _;unfold Builtin.Dict.updateFrom;have b:a≠s.heap.objs.size:=au j g;have d:Ad H s.heap.objs.size (.dT []) a=some (.lst vs):=by rw[af b];exact j
 obtain⟨c,h,i,_⟩:=I1.list (AV.of d);refine Ac (wpAny_typeOf i.isList.typeIs ?_);rw[if_pos 'z'];refine Ac (qw i e λh c j=>?_);have I2:Ab X A3 Y (Ad H s.heap.objs.size (.dT [])) { s with heap:=h,toks:=c }:=I1.kept (t':=c) j;obtain⟨e,i,b,_⟩:=I2.list (AV.of d);rw[if_pos (by rfl)];refine Ac (aW (Ac (wpAny_pyIter_list b.isList (An ?_))));have I3:Ab X A3 Y (Ad H s.heap.objs.size (.dT [])) { s with heap:=h.push { cls:=.type "list_iterator",data:=.fields #[.ref a,.int 0 0] },toks:=c }:=I2.kept (t':=c) λb o e=>AM _ e
 have b:Da X A3 (Ad H s.heap.objs.size (.dT [])) h.objs.size:=I2.fpOk (Am _) (I2.hok.fresh (Am _));refine{plainId_quiet F.plain_upd_loop _,qx m p (a:=a) (vs:=vs) vs.length 0 _ _ [] f _ rfl (AE _) I3 b {_,Bi _ rfl,rfl,rfl} d aq ?_ (Cj (BY (Ay _)) v) ?_}
 ·rw[F1]
  exact n.keep λu e=>by rw[g] at e;cases e
 ·rw[L2.upd_upd];exact q _ g
end
theorem jX:∀{us:List Value} {ns:List Int},IntsAre us ns->Aq 'k' us
 | _,_,.nil=>.nil
 | _,_,.cons n t h=>.cons ⟨t,rfl⟩ (jX h)
section
variable{X:Cx}{S:Type}{W:Wd S}{c:Dx W}{g ga gb gc:Gr}{a b:Expr}{fa fb fc:Fn S}{pos p2:Pos}
def wI:Co X (.builtin "sorted") (λj H Q=>∃(a:Addr) (ns:List Int),j=[.ref a]/\AV X.K H a 'k'/\ns.length<64/\∀p,H p=none->Q (.ref p) (Ad H p (.lst ((sortI ns).map V.int)))):=by
 intro d s Y H j us Q I r h;obtain⟨a,ns,rfl,d,e,q⟩:=h;obtain⟨u,rfl,f⟩:=bq r;cases f;obtain⟨h,e,p,i⟩:=I.list d;have f:=e.length;rw[Ag] at f;refine sorted_ints p.isList (og e) 'o' λd m l i f=>?_
 have e:=eq_sortI i f;subst e;obtain⟨e,m⟩:=sortedAll_at s.heap h d;have f:(sortI ns).length=ns.length:=i.length_eq;refine{.ref (s.heap.objs.size+1),_,I.laid (t':=s.toks) (a:=s.heap.objs.size+1) (o:=.lst ((sortI ns).map V.int)) (λb o e=>sortedAll_old e) (Ff _) ?_,rfl,q _ (I.hok.fresh (Ff _))};refine{by rw[Ag,f];exact BC (eA 'o'),d.toList,e,jX l,m}
def GQ:List D->Option D
 | [.lst l]=>(Eo l).bind λns=>if ns.length<64 then some (.lst ((sortI ns).map D.int)) else none
 | _=>none
theorem jY{K:FG}{A:Addr->Prop}{H:Hp}:∀ns:List Int,aa K A H (ns.map D.int) 'k'
 | []=>aa.nil.mpr rfl
 | n::ns=>aa.cons.mpr {_,_,rfl,Is.int_iff.mpr rfl,jY ns}
theorem jZ:∀ns:List Int,D.immL (ns.map D.int)=true
 | []=>rfl
 | n::ns=>by simp[D.immL,D.imm,jZ ns]
open H in
def wJ{K:FG}(e:c.K=K):Ct c (λo H Q=>∃(a:Addr) (ns:List Int),o=[.ref a]/\AV K H a 'k'/\ns.length<64/\∀p,H p=none->Q (.ref p) (Ad H p (.lst ((sortI ns).map V.int)))) GQ:=by
 subst e;intro l i H f d Q h z e q;unfold GQ at e;split at e
 ·rename_i m
  cases f:Eo m with
  | none=>rw[f] at e;cases e
  | some ns=>
    rw[f] at e;have e:(if ns.length<64 then some (D.lst ((sortI ns).map D.int)) else none)=some d:=e;split at e
    ·rename_i d
     cases e;obtain⟨v,r,i,l,n⟩:=aa.cons.mp z;obtain⟨a,us,r,_,j,m⟩:=Is.lst_iff.mp l;rw[aa.nil.mp n,r] at i;rw[jU f m] at j;exact{a,ns,i,.of j,d,λp f=>q _ _ (Af.laid f) (aJ h f) (AB.lst h f (λ_ n=>n) (jZ _) (jY _))}
    ·cases e
 ·cases e
def EQ:List D->Option (List (List Ak×D))
 | []=>some []
 | .tup [k,v]::l=>if v.imm=true then (AJ k).bind λkk=>(EQ l).map λr=>(kk,v)::r else none
 | _=>none
def Cw(ps:List (List Ak×D))(acc:List D×List D):List D×List D:=ps.foldl (λacc p=>AS p.1 p.2 acc.1 acc.2) acc
def Iv:List D->Option D
 | [.lst l]=>if l.length<sizeLine then (EQ l).map λps=>.dct (.non::(Cw ps ([],[])).1) (Cw ps ([],[])).2 else none
 | _=>none
open H in
theorem j0{K:FG}{A:Addr->Prop}{H:Hp}:∀{l:List D} {j:List V} {i:List (List Ak×D)},EQ l=some i->aa K A H l j->
 ∃f:List (List Ak×V),Fj H j f/\f.map (·.1)=i.map (·.1)/\aa K A H (i.map (·.2)) (f.map (·.2))/\D.immL (i.map (·.2))=true/\f.length=l.length
 | [],j,i,e,h=>by
   cases e;rw[aa.nil.mp h];exact{[],rfl,rfl,aa.nil.mpr rfl,rfl,rfl}
 | d::l,j,i,e,h=>by
   unfold EQ at e;split at e
   ·rename_i d
    cases d
   ·rename_i k v i d
    cases d;split at e
    ·rename_i z
     cases d:AJ k with
     | none=>rw[d] at e;cases e
     | some m=>
       cases i:EQ l with
       | none=>rw[d,i] at e;cases e
       | some r=>
         rw[d,i] at e;cases e;obtain⟨w,l,p,o,x⟩:=aa.cons.mp h;obtain⟨t,us,r,s,l⟩:=Is.tup_iff.mp o;obtain⟨v,h,q,n,u⟩:=aa.cons.mp l;obtain⟨h,A,y,v,o⟩:=aa.cons.mp u;obtain⟨b,l,A,_⟩:=dw d n;obtain⟨f,g1,g2,g3,g4,d⟩:=j0 i x;refine{(m,h)::f,?_,by simp[g2],aa.cons.mpr {_,_,rfl,v,g3},by simp[D.immL,z,g4],by simp[d]};rw[p];refine{t,b,m,h,f,rfl,r,?_,A,g1};rw[s,q,y,l,aa.nil.mp o]
    ·cases e
   ·cases e
theorem j3{K:FG}{A:Addr->Prop}{H:Hp}:∀{f:List (List Ak×D)} {i:List (List Ak×V)},i.map (·.1)=f.map (·.1)->aa K A H (f.map (·.2)) (i.map (·.2))->D.immL (f.map (·.2))=true->
 ∀{kk:List (List Ak)} {vs:List D} {us:List V},kk.length=us.length->aa K A H vs us->D.immL vs=true->
 ∃(e:List (List Ak)) (d:List V),(Cw f (kk.map AH,vs)).1=e.map AH/\aa K A H (Cw f (kk.map AH,vs)).2 d/\e.length=d.length/\FL (kk.zip us) i=e.zip d/\D.immL (Cw f (kk.map AH,vs)).2=true
 | [],i,e,h,m,kk,vs,us,l,o,mv=>by
   have:i=[]:=by simpa using e
   subst this;exact⟨kk,us,rfl,o,l,rfl,mv⟩
 | (k,d)::f,i,e,h,m,kk,vs,us,l,o,mv=>by
   cases i with
   | nil=>cases e
   | cons q i=>
     obtain⟨k',v⟩:=q;obtain⟨w,r,j,p,s⟩:=aa.cons.mp h;have j:v::i.map (·.2)=w::r:=j;cases j;have n:k'=k/\i.map (·.1)=f.map (·.1):=by simpa using e
     obtain⟨rfl,n⟩:=n;have m':d.imm=true/\D.immL (f.map (·.2))=true:=by simpa [D.immL] using m
     obtain⟨e,h,g1,g2,g3,g4⟩:=gg (k:=k') p l o;have m:=eK (k:=k') (ks:=kk.map AH) m'.1 mv;obtain⟨h,j,l,f2,q,o,p⟩:=j3 n s m'.2 (kk:=e) (vs:=(AS k' d (kk.map AH) vs).2) g3 g2 m;have n:Cw ((k',d)::f) (kk.map AH,vs)=Cw f (e.map AH,(AS k' d (kk.map AH) vs).2):=by
      show Cw f (AS k' d (kk.map AH) vs)=_;rw[<-g1]
     rw[n];refine{h,j,l,f2,q,?_,p};show FL (Bh (kk.zip us) k' v) i=_;rw[g4];exact o
open H in
def wK:Ct c (λs H Q=>∃(a:Addr) (vs:List V) (f:List (List Ak×V)),s=[.ref a]/\H a=some (.lst vs)/\Fj H vs f/\f.length<sizeLine/\∀d,H d=none->Q (.ref d) (Ad H d (.dT (FL [] f)))) Iv:=by
 intro l vs H h d Q i z e q;unfold Iv at e;split at e
 ·rename_i m
  split at e
  ·rename_i o
   cases d:EQ m with
   | none=>rw[d] at e;cases e
   | some f=>
     rw[d] at e;cases e;obtain⟨v,r,h,j,p⟩:=aa.cons.mp z;obtain⟨a,us,r,_,n,l⟩:=Is.lst_iff.mp j;rw[aa.nil.mp p,r] at h;obtain⟨m,g1,g2,g3,g4,j⟩:=j0 d l;refine{a,us,m,h,n,g1,by rw[j];exact o,λp h=>?_};obtain⟨kk,d,j,f2,o,l,n⟩:=j3 g2 g3 g4 (kk:=[]) (vs:=[]) (us:=[]) rfl (aa.nil.mpr rfl) rfl;have j:(Cw f ([],[])).1=kk.map AH:=j;have f2:aa c.K 'w' H (Cw f ([],[])).2 d:=f2;have l:FL [] m=kk.zip d:=l;refine q _ _ (Af.laid h) (aJ i h) (Is.dct_iff.mpr {p,d,rfl,{bx i h,h},aa.ofImm n (f2.ext (Af.laid h) i λ_ n=>n),.inr {kk,by rw[j],o,?_}});rw[aq,l]
  ·cases e
 ·cases e
def KD(i j k:Nat)(ta:TA):TS:=λD Y H=>ta Y H λvs H1=>∃u v w,vs=[u,v,w]/\D.nx (((Y.set i (some u)).set j (some v)).set k (some w)) H1
def qy{i j k:Nat}{x y z:Str}{kt k2 pt2}(U:X.calm=true)(r:X.N.Nodup)(P:X.N[i]?=some x)(N:X.N[j]?=some y)(O:X.N[k]?=some z)(A:i≠j)(m:i≠k)(B:j≠k)(G:X.env.scope.names.lookup x=some .local)(E:X.env.scope.names.lookup y=some .local)(M:X.env.scope.names.lookup z=some .local)(e:PA X [a,b,d] ta)(Q:swappedStores [.Tuple [.Name x px,.Name y py,.Name z pz] kt pt] (.Tuple [a,b,d] k2 pt2) X.env=pure (some [x,y,z]))(f:autoParam (swapsWithSole [.Tuple [.Name x px,.Name y py,.Name z pz] kt pt] (.Tuple [a,b,d] k2 pt2) pos.line X.env=pure false) uR) :
 PS X (.Assign [.Tuple [.Name x px,.Name y py,.Name z pz] kt pt] (.Tuple [a,b,d] k2 pt2) pos) (KD i j k ta):=by
 intro J s Y H D I h;rw[exec_Assign_arm];refine Ac (wpAny_standAt ?_);rw[f];refine Ac (An ?_);rw[if_neg 'z'];refine Ac (Tuple_ (ai (e _ J s Y H _ I h) λus l hI123=>?_));obtain⟨d,H1,I1,e,s⟩:=hI123;obtain⟨u,v,w,n,s⟩:=s;subst n;obtain⟨h,d,f,rfl,Z,R,C⟩:∃h d f,us=[h,d,f]/\Aj u h/\Aj v d/\Aj w f:=by
  cases e with
  | cons p q=>
    cases q with
    | cons p' T=>
      cases T with
      | cons o e=>cases e;exact{_,_,_,rfl,p,p',o}
 refine wpAny_newObj_type ?_ (by show 3<=sizeLine;decide);have I2:Ab X J Y H1 { l with heap:=l.heap.push { cls:=.type "tuple",data:=.seq [h,d,f].toArray } }:=I1.kept (t':=l.toks) λb o e=>AM _ e
 rw[Q];refine Ac (An ?_);show wpAny 'e' X.A (do rule "assign.swapped-stores";let items <-unpackItems (.ref l.heap.objs.size) 3 none;assignInOrder [λv=>bindName X.env z v,λv=>bindName X.env y v,λv=>bindName X.env x v] items.reverse;pure Flow.next) _ _ _;refine Ac (aW (Ac (unpackItems_tuple (items:=#[h,d,f]) (I.ok.hd U) (IsTup.new l.heap _) λh' p=>?_)));have I3:=I2.kept (h':=h') (t':=l.toks) λb o e=>p b o (Bk (Heap.lt_size e)) e
 show wpAny _ _ (assignInOrder [λv=>bindName X.env z v,λv=>bindName X.env y v,λv=>bindName X.env x v] [f,d,h] >>= λ_=>pure Flow.next) _ _ _;refine Ac (assignInOrder_cons (wpAny_bindName (bQ I3 r O (.inl M) C (λd I4=>?_) (.inr M))));refine assignInOrder_cons (wpAny_bindName (bQ I4 r N (.inl E) R (λd I5=>?_) (.inr E)));refine assignInOrder_cons (wpAny_bindName (bQ I5 r P (.inl G) Z (λd I6=>assignInOrder_nil (An ?_)) (.inr G)));refine{_,H1,?_,s};have e:((Y.set k (some w)).set j (some v)).set i (some u)=((Y.set i (some u)).set j (some v)).set k (some w):=by
  have n:(Y.set k (some w)).set j (some v)=(Y.set j (some v)).set k (some w):=List.set_comm _ _ (Ne.symm B);have d:∀τ:St,(τ.set k (some w)).set i (some u)=(τ.set i (some u)).set k (some w):=λτ=>List.set_comm _ _ (Ne.symm m)
  have f:(Y.set j (some v)).set i (some u)=(Y.set i (some u)).set j (some v):=List.set_comm _ _ (Ne.symm A);rw[n,d,f]
 rw[e] at I6;exact I6
def JK(S:Type)(i j k:Nat)(f:AY S):Ax S:=λZ st=>(f Z st).bind λl st1=>match l with
 | [d,e,h]=>(Aw (put Z i d) st1).bind λZ1 st2=>(Aw (put Z1 j e) st2).bind λZ2 st3=>(Aw (put Z2 k h) st3).bind λZ3 st4=>.ok (.nx Z3) st4
 | _=>.bad
open H in
def wL{i j k:Nat}{x y z:Str}{kt h pt2}(C:X.calm=true)(s:X.N.Nodup)(u:X.N[i]?=some x)(n:X.N[j]?=some y)(q:X.N[k]?=some z)(l:i≠j)(e:i≠k)(m:j≠k)(p:X.env.scope.names.lookup x=some .local)(o:X.env.scope.names.lookup y=some .local)(B:X.env.scope.names.lookup z=some .local)(r:DB X c [a,b,d] f)(v:swappedStores [.Tuple [.Name x px,.Name y py,.Name z pz] kt pt] (.Tuple [a,b,d] h pt2) X.env=pure (some [x,y,z]))(A:autoParam (swapsWithSole [.Tuple [.Name x px,.Name y py,.Name z pz] kt pt] (.Tuple [a,b,d] h pt2) pos.line X.env=pure false) uR) :
 DS X c (.Assign [.Tuple [.Name x px,.Name y py,.Name z pz] kt pt] (.Tuple [a,b,d] h pt2) pos) (JK S i j k f):=
 (qy C s u n q l e m p o B r v A).imp λD Y H hI41=>by
  obtain⟨Z,d,R,n,w⟩:=hI41;refine{Z,d,R,n,aj (ae.mp w) (λl f q o H1 e d m=>?_) λx f q o e l=>q o (e.f0 R) l};split at q
  ·rename_i o z l
   obtain⟨v,r,p,B,f⟩:=aa.cons.mp m;obtain⟨v',r',x,f,l⟩:=aa.cons.mp f;obtain⟨m,s,r,l,y⟩:=aa.cons.mp l;rw[x,r,aa.nil.mp y] at p;obtain⟨s,r,q⟩:=ar.mp (ae.mp q);obtain⟨s,p2,q⟩:=ar.mp (ae.mp q);obtain⟨x,s,q⟩:=ar.mp (ae.mp q);obtain⟨y,rfl⟩:=bV r;obtain⟨A,rfl⟩:=bV p2;obtain⟨x,rfl⟩:=bV s;have r:=(R.ext n e).setB y B;have s:A9 (Av c Y Z) (Av c (Y.set i (some v)) (Z.set i (.bor o))) H1 H1:=Be.keepT (R.ext n e) d aZ;have R2:=r.setB A (f.mono s);have h:A9 (Av c (Y.set i (some v)) (Z.set i (.bor o))) (Av c ((Y.set i (some v)).set j (some v')) ((Z.set i (.bor o)).set j (.bor z))) H1 H1:=Be.keepT r d aZ;have f:=R2.setB x ((l.mono s).mono h);exact{v,v',m,p,q _ _ ((Af.frm e).trans (aZ.trans (aZ.trans aZ))) d f}
  ·exact q.elim
def Iw{S:Type}{W:Wd S}(c:Dx W):List Str->List (Fn S)->List (TE×TE)
 | k::ks,f::fs=>(tC (.str k),tD c .R f)::Iw c ks fs
 | _,_=>[]
def GR(S:Type):List (Fn S)->AY S
 | []=>F8 S
 | f::fs=>Cp S f (GR S fs)
theorem j4:∀(n:List Str) (r:List (Fn S)) {Y:St} {H:Hp} {Z:Ae} {m:S} {Q:List (V×V)->Hp->Prop},n.length=r.length->As c H Y Z->W.ok m H->
 Aa (GR S r Z m) (λl h=>∀o i,Af W H i->W.ok h i->aa c.K 'w' i l o->Q ((n.zip o).map λC=>(V.str C.1,C.2)) i) (λx h=>∀i,Af W H i->W.ok h i->c.Ex x h i)->GH (Iw c n r) Y H Q
 | [],[],Y,H,Z,m,Q,_,R,u,w=>w [] H Af.refl u (aa.nil.mpr rfl)
 | k::n,f::r,Y,H,Z,m,Q,p,R,u,w=>by
   refine{Z,m,R,u,aj (ae.mp w) (λd A q v H1 e s z=>?_) λx A q=>q};refine j4 n r (by simpa using p) (R.ext u e) s (aj (ae.mp q) (λl B q o H2 y j E=>?_) λx B q H2 y j=>q H2 (e.trans y) j);exact q (v::o) H2 (e.trans y) j (aa.cons.mpr {v,o,rfl,z.toR.ext y s,E})
 | [],_::_,_,_,_,_,_,p,_,_,_=>by cases p
 | _::_,[],_,_,_,_,_,p,_,_,_=>by cases p
def Gb(x:Str):List Str->List D->Option D
 | k::ks,v::vs=>if k=x then some v else Gb x ks vs
 | _,_=>none
theorem j5:∀(f d:List (Au×V)),(d.map (·.1)++f.map (·.1)).Nodup->EZ d f=d++f
 | [],d,_=>by show d=d++[];simp
 | (k,v)::f,d,h=>by
   have j:∀p∈d,p.1≠k:=λp i e=>by
    have:=(Fw.mp h).2.2 p.1 (List.mem_map_of_mem i) k 'd';exact this e
   have e:Bh d k v=d++[(k,v)]:=by
    unfold Bh;rw[if_neg];intro z;obtain⟨p,i,l⟩:=List.any_eq_true.mp z;exact j p i (by simpa using l)
   show EZ (Bh d k v) f=_;rw[e,j5 f (d++[(k,v)]) (by simpa using h)];simp
instance DKV(X:Cx){S:Type}{W:Wd S}(c:Dx W)(pos:Pos)(keys:List (Option Expr))(values:List Expr)(ks:List Str)(fs:List (Fn S)):Prop:=PPs X pos keys values (Iw c ks fs)/\ks.length=fs.length
def wM:DKV X c pos [] [] [] ([]:List (Fn S)):=⟨fQ,rfl⟩
def wN{k:Str}{j}(e:DE X c .R v f)(h:DKV X c pos keys values d fs):DKV X c pos (some (.Constant (.str k) j p)::keys) (v::values) (k::d) (f::fs):=
 {eB bH e h.1,by simp[h.2]}
def JL(S:Type)(ks:List Str)(fs:List (Fn S))(fk:Fn S):Fn S:=λZ st=>(GR S fs Z st).bind λl st1=>(fk Z st1).bind λd st2=>match d with
 | .str x=>if D.immL l=true then Aw (Gb x ks l) st2 else .bad
 | _=>.bad
theorem j6{K:FG}{A:Addr->Prop}{H:Hp}{x:Str}:∀{f:List Str} {l:List D} {i:List V} {d:D},Gb x f l=some d->aa K A H l i->D.immL l=true->∃v,Cd ((f.zip i).map λj=>((Sum.inr j.1:Au),j.2)) (Sum.inr x:Au)=some v/\Is K A H d v/\d.imm=true
 | [],l,i,d,e,_,_=>by cases l<;>cases e
 | k::f,[],i,d,e,_,_=>by cases e
 | k::f,y::l,i,d,e,h,m=>by
   obtain⟨v,r,d,n,o⟩:=aa.cons.mp h;subst d;have m':y.imm=true/\D.immL l=true:=by simpa [D.immL] using m
   unfold Gb at e;by_cases d:k=x
   ·rw[if_pos d] at e;cases e
    subst d;exact{v,cf rfl,n,m'.1}
   ·rw[if_neg d] at e
    obtain⟨v',g1,g2,g3⟩:=j6 e o m'.2;refine{v',?_,g2,g3};show Cd (((Sum.inr k:Au),v)::(f.zip r).map λj=>((Sum.inr j.1:Au),j.2)) (Sum.inr x:Au)=_;rw[cg (λz=>d (Sum.inr.inj z))];exact g1
theorem j7:∀{f:List Str} {i:List V},f.Nodup->((f.zip i).map ((λx=>x.1) ∘ λd=>((Sum.inr d.1:Au),d.2))).Nodup
 | [],_,_=>by simp
 | k::f,[],_=>by simp
 | k::f,v::i,h=>by
   obtain⟨j,l⟩:=Fe.mp h;show ((Sum.inr k:Au)::(f.zip i).map ((λx=>x.1) ∘ λd=>((Sum.inr d.1:Au),d.2))).Nodup;refine Fe.mpr {λh=>?_,j7 l};obtain⟨⟨a,b⟩,d,e⟩:=B7.mp h;have e:a=k:=Sum.inr.inj e;subst e;exact j (List.of_mem_zip d).1
open H in
def wO(hu:X.A.units+2<cLine)(h:DKV X c dpos keys values j fs)(M:keys.all (·.isSome)=true)(hl:keys.length=values.length)(h0:keys≠[])(h15:keys.length<=15)(hks:j.length<=15)(hnd:j.Nodup)(hk:DE X c ga k fk)(hs:HW k):DE X c g (.Subscript (.Dict keys values dpos) k pos) (JL S j fs fk):=
 (dh hu (jb h.1 M hl h0 h15) hk hs).imp λY H Q hI42=>by
  obtain⟨Z,st,R,N,w⟩:=hI42;intro p J;have U:¬W.mv p:=bx N J;refine j4 j fs h.2 (R.ext N (Af.laid J)) (aJ N J) (aj (ae.mp w) (λl E q G H2 O n z2=>?_) λx E q H2 O n=>q H2 ((Af.laid J).trans O) n);have C:H2 p=some (.dK []):=O p _ aq U;refine{C,(j.zip G).map λi=>((Sum.inr i.1:Au),i.2),by rw[Cz];rfl,by rw[Ag,List.length_zip];omega,?_};have mk:EZ [] ((j.zip G).map λi=>((Sum.inr i.1:Au),i.2))=(j.zip G).map λi=>((Sum.inr i.1:Au),i.2):=by
   rw[j5 _ []]
   ·rfl
   ·show (((j.zip G).map λi=>((Sum.inr i.1:Au),i.2)).map (·.1)).Nodup
    rw[Cz];exact j7 hnd
  rw[mk];have T:Af W H (Ad H2 p (.dK ((j.zip G).map λi=>((Sum.inr i.1:Au),i.2)))):=λb o hb nm=>by
   have P:b≠p:=au hb J;rw[af P];exact O b o (by rw[af P];exact hb) nm
  have I:=bU (o:=.dK ((j.zip G).map λi=>((Sum.inr i.1:Au),i.2))) n U C;have R3:=R.ext N T;refine{Z,E,R3,I,aj (ae.mp q) (λd st2 q v s B r z4=>?_) λx st2 q s B r=>q s (T.trans B) r};split at q
  ·rename_i x
   split at q
   ·rename_i im
    obtain⟨dd,e5,q⟩:=ar.mp q;have k1:A9 (λ_=>False) (λb=>¬W.mv b/\H b=Option.none) H2 s:={λb u e sy=>by
     have P:b≠p:=λz=>by
      subst z;rw[C] at e;cases e;rcases sy with⟨_,y⟩ | ⟨_,_,y⟩<;>cases y
     refine B b _ (by rw[af P];exact e) λm=>?_
     obtain⟨o',h',n1,n2⟩:=W.live E H2 b n m;rw[e] at h';cases h';rcases sy with⟨y,z⟩ | ⟨y1,y2,z⟩
     ·exact n1 y z
     ·exact n2 y1 y2 z,λb o f=>f.elim}
    have z3:aa c.K (λ_=>False) H2 l G:=aa.ofImm im z2;obtain⟨v',g1,g2,g3⟩:=j6 e5 (z3.mono k1) im;have zx:Is c.K 'w' s (.str x) v:=z4.toR;refine{p,v',rfl,?_,q v' s (T.trans B) r ((AB.val (R3.ext I B) (show AB c s s dd v' from Is.ofImm g3 g2) g).back (T.trans B) r)};rw[Is.str_iff.mp zx,<-g1];exact BM.k (k:=(Sum.inr x:Au)) (B p _ aq U)
   ·exact q.elim
  ·exact q.elim
def wP{A:Around}{k:Nat}(d:AQ k A):A.in1.units+2<cLine:=by
 have:=d.units;show A.units+1+2<cLine;omega
def wQ(d:X.A.units+2<cLine)(f:DE X c ga a fa)(h:DE X c gb b fb)(e:autoParam (behindInMarks .NotIn b=false) uR):DT X c (.Compare a [.NotIn] [b] pos) (fB S (f2 S (Dt true) fa fb)):=
 (iz (i8 d f h) e).imp λY H Q q=>by
  have d:tB (tD c .R (f2 S (Dt true) fa fb)) Y H Q:=eC q;exact jK (ga:=ga) (gb:=gb) d
end
abbrev Dr:=List Int×Int
def Ee(l:Addr)(t:Int):List (Au×V):=[(Sum.inr "cells",.ref l),(Sum.inr "turn",.int t)]
def Ef(p l:Addr):Wd Dr where
 ok:=λst H=>H p=some (.dK (Ee l st.2))/\H l=some (.lst (st.1.map V.int))/\st.1≠[]/\st.1.length<=63/\0<=st.2
 mv:=λb=>b=p\/b=l
 h:=.ref p
 stay:=λst H H' ⟨a,b,c⟩ k _=>{k p _ (.inl rfl) a,k l _ (.inr rfl) b,c}
 live:=λst H b hI43 m=>by
  obtain⟨a,c,_⟩:=hI43;rcases m with m | m
  ·subst m;exact{_,a,(λu z=>by cases z),λob u z=>by cases z}
  ·subst m;exact{_,c,(λu z=>by cases z),λob u z=>by cases z}
def Gc(cell turn:Int):Int:=(cell % 2147483629+turn*turn*7919+11)*48271 % 2147483647
def JM(cell turn:Int):Int:=Gc cell turn*Gc cell turn % 2147483587
def JN(cell turn:Int):Int:=(JM cell turn+turn*104729)*39373 % 2147483629 / 64
def Cb(st:Dr):Nat:=((st.2+1) % (st.1.length:Int)).toNat
def CV(l:List D)(st:Dr):Ap Dr D:=match l with
 | [.int many]=>if 0<many/\many<1073741824/\st.2<2 ^ 40 then
  (if 1000000000000000000<=st.1.getD (Cb st) 0 then .ok (.int (st.1.getD (Cb st) 0 % many)) (st.1.set (Cb st) (st.1.getD (Cb st) 0 / many),st.2+1)
   else .ok (.int (JN (st.1.getD (Cb st) 0) (st.2+1) % many)) (st.1,st.2+1)) else .bad
 | _=>.bad
def gm:¬((Sum.inr ("cells" : Str)):Au)=Sum.inr ("turn" : Str):=by decide +kernel
def qz{t:Int}:Cd (Ee l t) (Sum.inr "cells" : Au)=some (.ref l):=by
 unfold Ee;exact cf rfl
def j8{t:Int}:Cd (Ee l t) (Sum.inr "turn" : Au)=some (.int t):=by
 unfold Ee;rw[cg (λz=>gm z)];exact cf rfl
def qA{t u:Int}:Bh (Ee l t) (Sum.inr "turn" : Au) (.int u)=Ee l u:=by
 unfold Bh;rw[de,j8];refine(if_pos (show (some (V.int t)).isSome=true from rfl)).trans ?_;unfold Ee;simp only[BX,List.map_nil];rw[if_neg (λz=>gm z)];simp
structure Bn(mg:Str->Option Value):Prop where
 len:mg "len" = none
 divmod:mg "divmod" = none
 list:mg "list" = none
 tuple:mg "tuple" = none
 int:mg "int" = none
 bool:mg "bool" = none
 str:mg "str" = none
 dict:mg "dict" = none
 isinstance:mg "isinstance" = none
 all:mg "all" = none
 any:mg "any" = none
 sum:mg "sum" = none
 zip:mg "zip" = none
 enumerate:mg "enumerate" = none
 range:mg "range" = none
 sorted:mg "sorted" = none
 min:mg "min" = none
 max:mg "max" = none
 abs:mg "abs" = none
 reversed:mg "reversed" = none
 set:mg "set" = none
def E5(ns:List Int):List Int:=if ns=[] then [7] else ns
def Ix(K:FG):Sp:=λvs H Q _=>∃(a:Addr) (ns:List Int),vs=[.ref a]/\AV K H a 'k'/\ns.length<=63/\
 ∀(p l:Addr) (H':Hp),BH H H'->H p=none->H l=none->H' p=some (.dK (Ee l 0))->H' l=some (.lst ((E5 ns).map V.int))->Q (.ref p) H'
def qB{ns:List Int}(h:ns.length<=63):Ej 'k' none (some 63)=ns.map V.int:=by
 unfold Ej;have e:HT.sIx 'k'.length 'k'.length (some 63)='k'.length:=by
  have:HT.sIx 'k'.length 'k'.length (some ((63:Nat):Int))=min 63 'k'.length:=HT.sIx_nat _ _ _;rw[show ((63:Nat):Int)=(63:Int) from rfl] at this;rw[this,Ag];omega
 rw[e];show ('k'.drop 0).take ('k'.length-0)=_;rw[F1,Nat.sub_zero,C6]
theorem j9{K:FG}{A:Addr->Prop}{H:Hp}:∀ns:List Int,aa K A H (ns.map D.int) 'k'
 | []=>aa.nil.mpr rfl
 | n::ns=>aa.cons.mpr {_,_,rfl,Is.int_iff.mpr rfl,j9 ns}
theorem kc:∀ns:List Int,D.depL (ns.map D.int)<=1
 | []=>by simp[D.depL]
 | n::ns=>by
   have:=kc ns;simp only[BX,D.depL,D.dep];omega
def qC(ns:List Int):D.dep (.lst (ns.map D.int))<=30:=by
 have:=kc ns;simp only[D.dep];omega
def qD:EZ [] [((Sum.inr "cells" : Au),.ref l),((Sum.inr "turn" : Au),.int 0)]=Ee l 0:=by
 show Bh (Bh [] (Sum.inr "cells" : Au) (.ref l)) (Sum.inr "turn" : Au) (.int 0)=_;have a:Bh [] (Sum.inr "cells" : Au) (.ref l)=[((Sum.inr "cells" : Au),.ref l)]:=rfl;rw[a];unfold Bh;rw[de,cg (λz=>gm z)];rfl
instance spLaw(K:FG):Sp:=λvs H Q _=>∃(a:Addr) (ns:List Int),vs=[.ref a]/\AV K H a 'k'/\ns.length<=63/\∀H',Q (.bl true) H'
def CL(n:Nat):Ae:=.no::.hnd::List.replicate (n-2) .no
instance exL{X:Cx}(K:FG)(F:Ax Dr):TS:=λD Y H=>∃p l,tS (DF (Ef p l) K (λ_=>none)) F D Y H
def qE{X:Cx}{K:FG}{a:List Stmt}{F:Ax Dr}(h:∀p l,BK X (DF (Ef p l) K (λ_=>none)) a F):CA X a (exL (X:=X) K F):=λa s Y H D I ⟨p,l,q⟩=>h p l a s Y H D I q
def qF{K:FG}{H:Hp}{p l a:Addr}{m:Nat}:As (DF (Ef p l) K (λ_=>none)) H (some (.ref a)::some (.ref p)::List.replicate m none) (CL (m+2)) where
 len:=by simp[CL]
 frame:=λb o e=>by cases e
 slot:=λi s h=>by
  unfold CL at h
  match i with
  | 0=>cases h;trivial
  | 1=>cases h;rfl
  | i+2=>
    have h:(List.replicate (m+2-2) Sl.no)[i]?=some s:=by simpa using h
    rw[He] at h;split at h
    ·cases h;trivial
    ·cases h
 avl:=λb h=>h.elim
 uniq:=λi j b d e a c _ _=>by
  unfold CL at a
  match i with
  | 0=>cases a
  | 1=>cases a
  | i+2=>
    have a:(List.replicate (m+2-2) Sl.no)[i]?=some (.own d):=by simpa using a
    rw[He] at a;split at a
    ·cases a
    ·cases a
section
variable{S α β:Type}{E:AG->S->Prop}{st:S}
open H in
def aG(h:∀d a,Aa (k d a) Q E↔P d a):Aa (r.bind k) Q E↔Aa r P E:=by
 rw[ae];exact iff_of_eq (congrArg (λz=>Aa r z E) (funext λd=>funext λa=>propext (h d a)))
def dz{P:α->Prop}{a:α}{R:Prop}(k:R↔P a):R↔∃b,some a=some b/\P b:={λq=>{a,rfl,k.mp q},λh=>by obtain⟨_,e,q⟩:=h;cases e;exact k.mpr q}
def dC{P:α->Prop}:False↔∃b,(none:Option α)=some b/\P b:={False.elim,λh=>by obtain⟨_,e,q⟩:=h;cases e}
def gn{P:Bool->Prop}{a:Bool}{R:Prop}(k:R↔P a):R↔∃b,D.bl a=.bl b/\P b:={λq=>{a,rfl,k.mp q},λh=>by obtain⟨_,e,q⟩:=h;cases e;exact k.mpr q}
def qG{P:Int->Prop}{a:Int}{R:Prop}(k:R↔P a):R↔∃b,D.int a=.int b/\P b:={λq=>{a,rfl,k.mp q},λh=>by obtain⟨_,e,q⟩:=h;cases e;exact k.mpr q}
def qH{P:Str->Prop}{a:Str}{R:Prop}(k:R↔P a):R↔∃b,D.str a=.str b/\P b:={λq=>{a,rfl,k.mp q},λh=>by obtain⟨_,e,q⟩:=h;cases e;exact k.mpr q}
def bK{c:β->α}{d:α}{P:β->Prop}(h:∀b,d=c b->False):False↔∃b,d=c b/\P b:={False.elim,λg=>by obtain⟨b,e,_⟩:=g;exact h b e}
def gp{γ:Type}{c:β->α}{d:α}{P:β->γ->Prop}(h:∀b,d=c b->False):False↔∃b g,d=c b/\P b g:={False.elim,λg=>by obtain⟨b,_,e,_⟩:=g;exact h b e}
def gq{γ:Type}{P:Int->γ->Prop}{a:Int}{R:Prop}(k:R↔∃g,P a g):R↔∃b g,D.int a=.int b/\P b g:={λh=>by obtain⟨g,q⟩:=k.mp h;exact⟨a,g,rfl,q⟩,λh=>by obtain⟨_,g,e,q⟩:=h;cases e;exact k.mpr ⟨g,q⟩}
def eN{c:Prop}[Decidable c]:Aa (if c then r else .bad) Q E↔c/\Aa r Q E:=by
 by_cases h:c
 ·rw[if_pos h];exact{λq=>⟨h,q⟩,λq=>q.2}
 ·rw[if_neg h];exact{λq=>q.elim,λq=>h q.1}
def eO:Aa ((Aw o st).bind λa b=>Ap.ok (Fl.nx a) b) Q E↔∃a,o=some a/\Q (.nx a) st:=by rw[ae,ar];exact Iff.rfl
def eP{o:Option Ae}{k:Ae->S->Ap S β}{Q:β->S->Prop}{P:Ae->Prop}(h:∀a,Aa (k a st) Q E↔P a):Aa ((Aw o st).bind k) Q E↔∃a,o=some a/\P a:=by
 rw[ae,ar];exact exists_congr λa=>and_congr Iff.rfl (h a)
end
def qI{d:D}{b:Bool}:d.bool?=some b↔d=.bl b:=by
 cases d with
 | bl a=>exact{λe=>congrArg D.bl (Option.some.inj e),λe=>congrArg D.bool? e}
 | _=>exact{λe=>(by cases e),λe=>(by cases e)}
def int_iff{d:D}{b:Int}:d.int?=some b↔d=.int b:=by
 cases d with
 | int a=>exact{λe=>congrArg D.int (Option.some.inj e),λe=>congrArg D.int? e}
 | _=>exact{λe=>(by cases e),λe=>(by cases e)}
section
variable{S:Type}{E:AG->S->Prop}{Z:Ae}{st:S}
section
variable{Q:D->S->Prop}{f f1 f2' f3 fk:Fn S}
def wp_fAndV:Aa (Ik S f1 f2' Z st) Q E↔Aa (f1 Z st) (λd a=>∃b,d=.bl b/\(if b=true then Aa (f2' Z a) Q E else Q (.bl false) a)) E:=aG λd a=>by
 cases d with
 | bl b=>cases b<;>exact gn Iff.rfl
 | _=>exact bK λb e=>by cases e
def wp_fOrV:Aa (JA S f1 f2' Z st) Q E↔Aa (f1 Z st) (λd a=>∃b,d=.bl b/\(if b=true then Q (.bl true) a else Aa (f2' Z a) Q E)) E:=aG λd a=>by
 cases d with
 | bl b=>cases b<;>exact gn Iff.rfl
 | _=>exact bK λb e=>by cases e
def wp_fNotV:Aa (JB S f Z st) Q E↔Aa (f Z st) (λd a=>∃b,d=.bl b/\Q (.bl (!b)) a) E:=aG λd a=>by
 cases d with
 | bl b=>exact gn Iff.rfl
 | _=>exact bK λb e=>by cases e
def wp_fNeg:Aa (JD S f Z st) Q E↔Aa (f Z st) (λd a=>∃i,d=.int i/\Q (.int (-i)) a) E:=aG λd a=>by
 cases d with
 | int b=>exact qG Iff.rfl
 | _=>exact bK λb e=>by cases e
def wp_pSo{Q:Option Int->S->Prop}:Aa (pSo S f Z st) Q E↔Aa (f Z st) (λd a=>∃i,d=.int i/\Q (some i) a) E:=aG λd a=>by
 rw[ae,ar];exact exists_congr λi=>and_congr int_iff Iff.rfl
def wp_fB{Q:Bool->S->Prop}:Aa (fB S f Z st) Q E↔Aa (f Z st) (λd a=>∃b,d=.bl b/\Q b a) E:=aG λd a=>by
 rw[ar];exact exists_congr λi=>and_congr qI Iff.rfl
def wp_fDisp{c:List Str}{b:List (Fn S)}:Aa (JL S c b fk Z st) Q E↔Aa (GR S b Z st) (λl a=>Aa (fk Z a) (λd b=>∃x,d=.str x/\D.immL l=true/\Aa (Aw (Gb x c l) b) Q E) E) E:=aG λl a=>aG λd b=>by
 cases d with
 | str x=>exact qH eN
 | _=>exact bK λb e=>by cases e
def qJ{r:Option D}{a d:Ap S D}:Aa (match r with
 | some (.bl true)=>a
 | some (.bl false)=>d
 | _=>.bad) Q E↔∃b,r=some (.bl b)/\(if b=true then Aa a Q E else Aa d Q E):=by
 cases r with
 | none=>exact bK (c:=λb=>some (D.bl b)) λb e=>by cases e
 | some d=>cases d with
   | bl b=>cases b<;>exact{λq=>{_,rfl,q},λh=>by obtain⟨_,e,q⟩:=h;cases e;exact q}
   | _=>exact bK (c:=λb=>some (D.bl b)) λb e=>by cases e
def wp_fChain{o o':D->D->Option D}:Aa (GM S o o' f1 f2' f3 Z st) Q E↔Aa (f1 Z st) (λe c=>Aa (f2' Z c) (λd a=>∃b,o e d=some (.bl b)/\(if b=true then Aa (f3 Z a) (λg b=>Aa (Aw (o' d g) b) Q E) E else Q (.bl false) a)) E) E:=aG λe c=>aG λd a=>by
 refine qJ.trans ?_;rw[ae];exact Iff.rfl
end
section
variable{Q:Fl->S->Prop}{F G B:Ax S}{t:AO S}{f fk fv:Fn S}{i j k:Nat}
def wp_sAug{o:Int->Int->Int}:Aa (GP S i f o Z st) Q E↔∃a,rd Z i=some (.int a)/\Aa (f Z st) (λd g=>∃b e,d=.int b/\put Z i (.int (o a b))=some e/\Q (.nx e) g) E:=by
 unfold GP;cases rd Z i with
 | none=>exact bK (c:=λb=>some (D.int b)) λb e=>by cases e
 | some d=>cases d with
   | int a=>
     refine(aG λd g=>?_).trans {λq=>⟨a,rfl,q⟩,λh=>by obtain⟨_,e,q⟩:=h;cases e;exact q};cases d with
     | int b=>exact gq eO
     | _=>exact gp λb e=>by cases e
   | _=>exact bK (c:=λb=>some (D.int b)) λb e=>by cases e
def wp_sMt{o:List D->D->Option (List D)}:Aa (sMt S i o f Z st) Q E↔∃l,Bj Z i=some l/\Aa (f Z st) (λd a=>∃b,o l d=some b/\Q (.nx (Z.set i (.own (.lst b)))) a) E:=by
 unfold sMt;cases Bj Z i with
 | none=>exact dC
 | some l=>
   refine dz (aG λd a=>?_);rw[ae,ar];exact Iff.rfl
def wp_sItem:Aa (JF S i fk fv Z st) Q E↔Aa (fv Z st) (λv a=>∃l,Bj Z i=some l/\Aa (fk Z a) (λd b=>∃j n,d=.int j/\CC l.length j=some n/\v.imm=true/\Q (.nx (Z.set i (.own (.lst (l.set n v))))) b) E) E:=aG λv a=>by
 cases Bj Z i with
 | none=>exact dC
 | some l=>
   refine dz (aG λd b=>?_);cases d with
   | int j=>
     refine gq ?_;dsimp only;cases CC l.length j with
     | none=>exact dC
     | some n=>exact dz eN
   | _=>exact gp λb e=>by cases e
def wp_sDPut:Aa (JE S i fk fv Z st) Q E↔Aa (fv Z st) (λv c=>∃a b,DZ Z i=some (a,b)/\Aa (fk Z c) (λd g=>∃m,AJ d=some m/\v.imm=true/\a.length<sizeLine/\Q (.nx (Z.set i (.own (.dct (.non::(AS m v a b).1) (AS m v a b).2)))) g) E) E:=aG λv c=>by
 cases DZ Z i with
 | none=>exact{False.elim,λh=>by obtain⟨_,_,e,_⟩:=h;cases e}
 | some l=>
   obtain⟨a,b⟩:=l;refine(aG λd g=>?_).trans {λq=>⟨a,b,rfl,q⟩,λh=>by obtain⟨_,_,e,q⟩:=h;cases e;exact q};cases AJ d with
   | none=>exact dC
   | some m=>exact dz (eN.trans and_assoc)
def wp_sPar{b:AY S}:Aa (JI S i j b Z st) Q E↔Aa (b Z st) (λl a=>match l with
 | [d,e]=>∃c,put Z i d=some c/\∃b,put c j e=some b/\Q (.nx b) a
 | _=>False) E:=aG λl a=>by
 match l with
 | []=>exact Iff.rfl
 | [_]=>exact Iff.rfl
 | [d,e]=>exact eP λ_=>eO
 | _::_::_::_=>exact Iff.rfl
def wp_sPar3{b:AY S}:Aa (JK S i j k b Z st) Q E↔Aa (b Z st) (λl a=>match l with
 | [d,e,h]=>∃g,put Z i d=some g/\∃c,put g j e=some c/\∃b,put c k h=some b/\Q (.nx b) a
 | _=>False) E:=aG λl a=>by
 match l with
 | []=>exact Iff.rfl
 | [_]=>exact Iff.rfl
 | [_,_]=>exact Iff.rfl
 | [d,e,h]=>exact eP λ_=>eP λ_=>eO
 | _::_::_::_::_=>exact Iff.rfl
end
end
section
variable{S α β:Type}{Q:α->S->Prop}{E:AG->S->Prop}{Z:Ae}{st:S}
def wp_ok{a:α}:Aa (Ap.ok a st) Q E↔Q a st:=Iff.rfl
def wp_bad:Aa (Ap.bad:Ap S α) Q E↔False:=Iff.rfl
def wp_some{a:α}:Aa (Aw (some a) st) Q E↔Q a st:=Iff.rfl
def wp_none:Aa (Aw (none:Option α) st) Q E↔False:=Iff.rfl
end
section
variable{S:Type}{E:AG->S->Prop}{Z:Ae}{st:S}
variable{Q:Fl->S->Prop}{F G B:Ax S}{t:AO S}{f:Fn S}{i j:Nat}
def ao:Aa (E3 S F G Z st) Q E↔Aa (F Z st) (λb a=>match b with
 | .nx c=>Aa (G c a) Q E
 | .rt d=>Q (.rt d) a
 | .bk r=>Q (.bk r) a
 | .ct r=>Q (.ct r) a) E:=by
 unfold E3;rw[ae];cases F Z st with
 | bad=>exact Iff.rfl
 | exc x s=>exact Iff.rfl
 | ok b s=>cases b<;>exact Iff.rfl
def wp_sNil:Aa (Jy S Z st) Q E↔Q (.nx Z) st:=Iff.rfl
def wp_sSet:Aa (FH S i f Z st) Q E↔Aa (f Z st) (λd a=>∃b,putN Z i d=some b/\Q (.nx b) a) E:=by
 unfold FH;rw[ae];have:∀d a,Aa ((Aw (putN Z i d) a).bind λe c=>Ap.ok (Fl.nx e) c) Q E↔∃b,putN Z i d=some b/\Q (.nx b) a:=λd a=>by rw[ae,ar];exact Iff.rfl
 simp only[this]
def wp_sSetB:Aa (Hl S i f Z st) Q E↔Aa (f Z st) (λd a=>∃b,put Z i d=some b/\Q (.nx b) a) E:=by
 unfold Hl;rw[ae];have:∀d a,Aa ((Aw (put Z i d) a).bind λe c=>Ap.ok (Fl.nx e) c) Q E↔∃b,put Z i d=some b/\Q (.nx b) a:=λd a=>by rw[ae,ar];exact Iff.rfl
 simp only[this]
def wp_sAsg{g:BQ}:Aa (Ia S g f Z st) Q E↔Aa (f Z st) (λd a=>∃b,g d Z=some b/\Q (.nx b) a) E:=by
 unfold Ia;rw[ae];have:∀d a,Aa ((Aw (g d Z) a).bind λe c=>Ap.ok (Fl.nx e) c) Q E↔∃b,g d Z=some b/\Q (.nx b) a:=λd a=>by rw[ae,ar];exact Iff.rfl
 simp only[this]
open H in
def wp_sIf:Aa (sIf S t F G Z st) Q E↔Aa (t Z st) (λb a=>if b=true then Aa (F Z a) Q E else Aa (G Z a) Q E) E:=by
 unfold sIf;rw[ae];refine iff_of_eq (congrArg (λz=>Aa (t Z st) z E) (funext λb=>funext λa=>propext ?_));cases b<;>exact Iff.rfl
open H in
def wp_sRet:Aa (Hk S f Z st) Q E↔Aa (f Z st) (λd a=>(d.imm=true\/d.flat=true)/\Q (.rt d) a) E:=by
 unfold Hk;rw[ae];refine iff_of_eq (congrArg (λz=>Aa (f Z st) z E) (funext λb=>funext λa=>propext ?_));by_cases h:b.imm=true\/b.flat=true
 ·rw[if_pos h];exact{λq=>⟨h,q⟩,λq=>q.2}
 ·rw[if_neg h];exact{λq=>q.elim,λq=>h q.1}
def wp_sRetV:Aa (H9 S i Z st) Q E↔∃d,own? Z i=some d/\Q (.rt d) st:=by
 unfold H9;rw[ae,ar];exact Iff.rfl
def wp_sDrop:Aa (H8 S f Z st) Q E↔Aa (f Z st) (λ_ a=>Q (.nx Z) a) E:=by unfold H8;rw[ae];exact Iff.rfl
def wp_sFor{b:List Nat}{a:FnI S}{g:BQ}:Aa (Ib S b a g B Z st) Q E↔Aa (a (frz b Z) st) (λl a=>Aa (DK S g B l (frz b Z) a) Q E) E:=by unfold Ib;rw[ae]
def wp_sBad:Aa (JH S Z st) Q E↔False:=Iff.rfl
theorem gr(I:Nat->Ae->S->Prop):∀{l:List D} {Z:Ae} {st:S} (n:Nat),I n Z st->
 (∀i d Z st,l[i]?=some d->I (n+i) Z st->∃h,g d Z=some h/\Aa (B h st) (λe a=>match e with
  | .nx b=>I (n+i+1) b a
  | .ct b=>I (n+i+1) b a
  | .bk b=>Q (.nx b) a
  | .rt d=>Q (.rt d) a) E)->(∀Z st,I (n+l.length) Z st->Q (.nx Z) st)->Aa (DK S g B l Z st) Q E
 | [],Z,st,n,c,_,m=>m Z st c
 | d::l,Z,st,n,c,o,m=>by
   obtain⟨h,p,q⟩:=o 0 d Z st rfl c;unfold DK;rw[p];refine ae.mpr (wp_some.mpr (ae.mpr (aj q (λe a z=>?_) λx a z=>z)));have c:∀b,I (n+1) b a->Aa (DK S g B l b a) Q E:=λb z=>gr I (n+1) z (λi d Z st h a=>by
    have:=o (i+1) d Z st (by simpa using h) (by rw[show n+(i+1)=n+1+i by omega];exact a);rw[show n+(i+1)=n+1+i by omega] at this;exact this) λZ st h=>m Z st (by rw[B4,show n+(l.length+1)=n+1+l.length by omega];exact h)
   cases e with
   | nx b=>exact c b z
   | ct b=>exact c b z
   | bk b=>exact z
   | rt d=>exact z
end
section
variable{S:Type}{E:AG->S->Prop}{Z:Ae}{st:S}{Q:D->S->Prop}{f f1 f2' f3:Fn S}{i:Nat}{t:AO S}
def wp_fC{d:D}:Aa (fC S d Z st) Q E↔Q d st:=Iff.rfl
def wp_fVk:Aa (fVk S i Z st) Q E↔Aa (Aw (kp Z i) st) Q E:=Iff.rfl
def wp_f2{o:D->D->Option D}:Aa (f2 S o f1 f2' Z st) Q E↔Aa (f1 Z st) (λd a=>Aa (f2' Z a) (λc b=>Aa (Aw (o d c) b) Q E) E) E:=by
 unfold f2;rw[ae];simp only[ae]
def wp_fA{o:List D->Option D}{b:AY S}:Aa (fA S o b Z st) Q E↔Aa (b Z st) (λl a=>Aa (Aw (o l) a) Q E) E:=by unfold fA;rw[ae]
def wp_aNil{Q:List D->S->Prop}:Aa (F8 S Z st) Q E↔Q [] st:=Iff.rfl
def wp_aCons{Q:List D->S->Prop}{r:AY S}:Aa (Cp S f r Z st) Q E↔Aa (f Z st) (λd a=>Aa (r Z a) (λl b=>Q (d::l) b) E) E:=by
 unfold Cp;rw[ae];simp only[ae];exact Iff.rfl
open H in
def wp_fCall{F:List D->Ap Unit D}{b:AY S}:Aa (GI S F b Z st) Q E↔Aa (b Z st) (λl a=>Aa (F l) (λd _=>Q d a) λ_ _=>False) E:=by
 unfold GI;rw[ae];refine iff_of_eq (congrArg (λz=>Aa (b Z st) z E) (funext λb=>funext λa=>propext ?_));cases F b<;>exact Iff.rfl
open H in
def wp_fCallS{F:List D->S->Ap S D}{e:AY S}:Aa (GJ S F i e Z st) Q E↔Z[i]?=some .hnd/\Aa (e Z st) (λl a=>Aa (F l a) Q λ_ _=>False) E:=by
 unfold GJ;split
 ·rename_i h
  rw[ae];have:∀b a,Aa (match F b a with
   | .ok d c=>Ap.ok d c
   | _=>Ap.bad) Q E↔Aa (F b a) Q λ_ _=>False:=λb a=>by cases F b a<;>exact Iff.rfl
  refine(iff_of_eq (congrArg (λz=>Aa (e Z st) z E) (funext λd=>funext λa=>propext (this d a)))).trans ?_;exact{λq=>⟨h,q⟩,λq=>q.2}
 ·rename_i h
  exact{λq=>q.elim,λq=>h q.1}
open H in
def wp_fIfE:Aa (JC S t f1 f2' Z st) Q E↔Aa (t Z st) (λb a=>if b=true then Aa (f1 Z a) Q E else Aa (f2' Z a) Q E) E:=by
 unfold JC;rw[ae];refine iff_of_eq (congrArg (λz=>Aa (t Z st) z E) (funext λb=>funext λa=>propext ?_));cases b<;>exact Iff.rfl
def wp_fCut{c e:FnO S}:Aa (Iu S f c e Z st) Q E↔Aa (f Z st) (λd a=>Aa (c Z a) (λl b=>Aa (e Z b) (λh a=>Aa (Aw (Hv l h d) a) Q E) E) E) E:=by
 unfold Iu;rw[ae];simp only[ae]
def wp_pNo{Q:Option Int->S->Prop}:Aa (pNo S Z st) Q E↔Q none st:=Iff.rfl
def wp_iSeq{Q:List D->S->Prop}{a:D->Option (List D)}:Aa (Ek S a f Z st) Q E↔Aa (f Z st) (λd b=>Aa (Aw (a d) b) Q E) E:=by unfold Ek;rw[ae]
def wp_iArgs{Q:List D->S->Prop}{o:List D->Option (List D)}{b:AY S}:Aa (FI S o b Z st) Q E↔Aa (b Z st) (λl a=>Aa (Aw (o l) a) Q E) E:=by unfold FI;rw[ae]
def wp_fComp{b:List Nat}{ixs:List (Option Nat)}{a:FnI S}{g:BQ}:Aa (F9 S b ixs a g t f Z st) Q E↔Aa (a (frz b Z) st) (λl a=>Aa (Ds S g t f l [] (Bp (frz b Z) ixs) a) (λr b=>Q (.lst r) b) E) E:=by
 unfold F9;rw[ae];simp only[ae];exact Iff.rfl
theorem cI{g:BQ}{Q:List D->S->Prop}(I:Nat->List D->Ae->S->Prop):∀{l a:List D} {Z:Ae} {st:S} (n:Nat),I n a Z st->
 (∀i d a Z st,l[i]?=some d->I (n+i) a Z st->∃e,g d Z=some e/\Aa (t e st) (λb c=>if b=true then Aa (f e c) (λy j=>y.imm=true/\a.length<sizeLine/\I (n+i+1) (a++[y]) e j) E else I (n+i+1) a e c) E)->
 (∀a Z st,I (n+l.length) a Z st->Q a st)->Aa (Ds S g t f l a Z st) Q E
 | [],a,Z,st,n,h,_,m=>m a Z st h
 | d::l,a,Z,st,n,h,p,m=>by
   obtain⟨e,r,q⟩:=p 0 d a Z st rfl h;have o:∀a c,I (n+1) a e c->Aa (Ds S g t f l a e c) Q E:=λa c z=>cI I (n+1) z (λi d a Z st h g=>by
    have:=p (i+1) d a Z st (by simpa using h) (by rw[show n+(i+1)=n+1+i by omega];exact g);rw[show n+(i+1)=n+1+i by omega] at this;exact this) λa Z st h=>m a Z st (by rw[B4,show n+(l.length+1)=n+1+l.length by omega];exact h)
   unfold Ds;rw[r];refine ae.mpr (wp_some.mpr (ae.mpr (aj q (λb c z=>?_) λx c z=>z)));cases b with
   | true=>
     have z:Aa (f e c) (λy j=>y.imm=true/\a.length<sizeLine/\I (n+0+1) (a++[y]) e j) E:=z;rw[if_pos rfl];refine ae.mpr (aj z (λy j hI124=>?_) λx c z=>z);obtain⟨b,d,a⟩:=hI124;rw[if_pos ⟨b,d⟩];exact o _ _ a
   | false=>exact o _ _ z
variable{Q:Bool->S->Prop}{t1 t2:AO S}
open H in
def wp_fAnd:Aa (HY S t1 t2 Z st) Q E↔Aa (t1 Z st) (λb a=>if b=true then Aa (t2 Z a) Q E else Q false a) E:=by
 unfold HY;rw[ae];refine iff_of_eq (congrArg (λz=>Aa (t1 Z st) z E) (funext λb=>funext λa=>propext ?_));cases b<;>exact Iff.rfl
open H in
def wp_fOr:Aa (fOr S t1 t2 Z st) Q E↔Aa (t1 Z st) (λb a=>if b=true then Q true a else Aa (t2 Z a) Q E) E:=by
 unfold fOr;rw[ae];refine iff_of_eq (congrArg (λz=>Aa (t1 Z st) z E) (funext λb=>funext λa=>propext ?_));cases b<;>exact Iff.rfl
def wp_fNot:Aa (HZ S t1 Z st) Q E↔Aa (t1 Z st) (λb a=>Q (!b) a) E:=by unfold HZ;rw[ae];exact Iff.rfl
def wp_fTrue:Aa (Hn S Z st) Q E↔Q true st:=Iff.rfl
end
def aE{n p:Nat}{B:Ax Unit}{l:List D}{Q:D->Unit->Prop}{E:AG->Unit->Prop}(e:l.length=p)(c:p<=n)(h:Aa (B (B9 n l) ()) (λa b=>match a with
 | .rt d=>Q d b
 | .nx _=>Q .non b
 | _=>False) E):Aa (Bv n p B l) Q E:=by
 unfold Bv;rw[if_pos ⟨e,c⟩];cases q:B (B9 n l) () with
 | bad=>rw[q] at h;exact h
 | exc x u=>rw[q] at h;exact h
 | ok a u=>rw[q] at h;cases a<;>exact h
def dD{S:Type}{n p:Nat}{B:Ax S}{l:List D}{a:S}{Q:D->S->Prop}{E:AG->S->Prop}(e:l.length+1=p)(c:p<=n)(h:Aa (B (Ca n l) a) (λb a=>match b with
 | .rt d=>Q d a
 | .nx _=>Q .non a
 | _=>False) E):Aa (El n p B l a) Q E:=by
 unfold El;rw[if_pos ⟨e,c⟩];cases q:B (Ca n l) a with
 | bad=>rw[q] at h;exact h
 | exc x u=>rw[q] at h;exact h
 | ok b u=>rw[q] at h;cases b<;>exact h
def ay{m:Int}{c:Dr}{Q:D->Dr->Prop}{E:AG->Dr->Prop}(b:0<m)(d:m<1073741824)(e:c.2<2 ^ 40)(h:∀v a,0<=v->v<m->a.2=c.2+1->Q (.int v) a):Aa (CV [.int m] c) Q E:=by
 unfold CV;simp only;rw[if_pos ⟨b,d,e⟩];split
 ·exact h _ _ (Int.emod_nonneg _ 'o') (Int.emod_lt_of_pos _ b) rfl
 ·exact h _ _ (Int.emod_nonneg _ 'o') (Int.emod_lt_of_pos _ b) rfl
def flat_lst{l:List D}:D.flat (.lst l)=D.immL l:=rfl
def flat_dct{k l:List D}:D.flat (.dct k l)=D.immL l:=rfl
def flat_int{i:Int}:D.flat (.int i)=false:=rfl
def flat_str{i:Str}:D.flat (.str i)=false:=rfl
def flat_bl{i:Bool}:D.flat (.bl i)=false:=rfl
def flat_non:D.flat .non=false:=rfl
def flat_tup{l:List D}:D.flat (.tup l)=false:=rfl
def aU{n:Nat}(h:n<=1000):n<=sizeLine:=BC (eA h)
def lt_size{n:Nat}(h:n<=1000):n<sizeLine:=eA h
theorem al{α:Type}{f:α->D}(h:∀a,(f a).imm=true):∀l:List α,D.immL (l.map f)=true
 | []=>rfl
 | a::l=>by simp only[BX,D.immL,h a,al h l,EG]
def qK:D.immL l=true↔∀d∈l,d.imm=true:=by
 induction l with
 | nil=>simp[D.immL]
 | cons a l ih=>simp[D.immL,ih]
def cJ(m:D.immL l=true)(h:l.length<=1000):CD l=some (.tup l):=if_pos {m,aU h}
def bi{l:List D}(m:D.immL l=true)(h:l.length<=1000):DY l=some (.lst l):=if_pos {m,aU h}
def aR(d:a.imm=true)(c:b.imm=true):CD [a,b]=some (.tup [a,b]):=cJ (by simp[D.immL,d,c]) 'd'
def eQ(f:a.imm=true)(d:b.imm=true)(e:c.imm=true):CD [a,b,c]=some (.tup [a,b,c]):=cJ (by simp[D.immL,f,d,e]) 'd'
def aV:DY []=some (.lst []):=bi rfl 'd'
def eR{a b:D}(d:a.imm=true)(c:b.imm=true):DY [a,b]=some (.lst [a,b]):=bi (by simp[D.immL,d,c]) 'd'
def bz(m:d.imm=true)(h:l.length<=1000):Ho l d=some (l++[d]):=if_pos {m,lt_size h}
def ah{i:Int}:D.imm (.int i)=true:=by simp[D.imm]
def imm_str{i:Str}:D.imm (.str i)=true:=by simp[D.imm]
def aI{i:Bool}:D.imm (.bl i)=true:=by simp[D.imm]
def imm_non:D.imm .non=true:=by simp[D.imm]
def am{l:List D}:D.imm (.tup l)=D.immL l:=by simp[D.imm]
def bW{S:Type}{E:AG->S->Prop}{Z:Ae}{c:S}{Q:List D->S->Prop}{g:BQ}{t:AO S}{f:Fn S}{l:List D}(h:D->D)(R:Ae->Prop)(q:R Z)(s:∀d∈l,∀Z,R Z->∃j,g d Z=some j/\R j/\Aa (t j c) (λb m=>b=true/\m=c) E/\Aa (f j c) (λy o=>y=h d/\y.imm=true/\o=c) E)(a:l.length<=sizeLine)(p:Q (l.map h) c):Aa (Ds S g t f l [] Z c) Q E:=by
 refine cI (λn e f a=>e=(l.take n).map h/\R f/\a=c) 0 {'d',q,rfl} (λi d e f a g hI126=>?_) λe f a hI125=>?_
 ·obtain⟨e,r,a⟩:=hI126
  subst a;have h:i<l.length:=(AZ.mp g).1;obtain⟨j,l,h,n,i⟩:=s d (BI g) f r;refine{j,l,aj n (λb m hI127=>?_) λx s z=>z};obtain⟨b,es⟩:=hI127;subst b es;rw[if_pos rfl];refine aj i (λy o ⟨d,b,es⟩=>{b,?_,?_,h,es}) λx s z=>z
  ·rw[e,Ag,C7];omega
  ·rw[e,d,Ay,Cy,g,BG];rfl
 ·obtain⟨e,r,a⟩:=hI125
  rw[Ay,C6] at e;subst e a;exact p
theorem ke{α:Type}{f:α->Int}:∀l:List α,Eo (l.map λa=>.int (f a))=some (l.map f)
 | []=>rfl
 | a::l=>by simp only[BX,Eo,ke l,BJ]
theorem dE{α:Type}{f:α->Bool}:∀l:List α,Dc (l.map λa=>.bl (f a))=some (l.map f)
 | []=>rfl
 | a::l=>by simp only[BX,Dc,dE l,BJ]
mutual
noncomputable def D.lw:D->Bool
 | .bl _=>false
 | .dct _ _=>false
 | .fl l=>D.lwL l&&decide (l.length<=sizeLine)
 | .fd _ _=>false
 | .tup l=>D.lwL l&&decide (l.length<=sizeLine)
 | .lst l=>D.lwL l&&decide (l.length<=sizeLine)
 | _=>true
noncomputable def D.lwL:List D->Bool
 | []=>true
 | d::l=>D.lw d&&D.lwL l
end
def eS:D.lwL l=true↔∀d∈l,d.lw=true:=by
 induction l with
 | nil=>simp[D.lwL]
 | cons a l ih=>simp[D.lwL,ih]
def kg(h:d∈l):d.dep<=D.depL l:=by
 induction l with
 | nil=>cases h
 | cons a l ih=>
   unfold D.depL;rcases AK.mp h with e | e
   ·subst e;omega
   ·have:=ih e;omega
def qL(h:d∈Du l l):∃x∈l,d=.tup [x,x]:=by
 obtain⟨i,c⟩:=D7 h;obtain⟨x,y,a,b,rfl⟩:=jQ c;rw[a] at b;cases b;exact{x,BI a,rfl}
def qM{l:List D}:Dc (l.map λ_=>.bl true)=some (l.map λ_=>true):=dE (f:=λ_=>true) l
def gt{a b:D}(d:a.imm=true)(e:b.imm=true){c:Bool}:Ba (.lst [a,b]) (.int (if c=true then 1 else 0))=some (if c=true then b else a):=by
 cases c
 ·show im (some a)=some a
  simp[im,d]
 ·show im (some b)=some b
  simp[im,e]
def bE{j:Int}(h:j<=1000)(a:0<=j):GK [.int j]=some (Db 0 j.toNat):=if_pos {'o','o'}
def br{a:Int}{n:Nat}:(Db a n).length=n:=by unfold Db;simp
def bt{a:Int}{n i:Nat}(h:(Db a n)[i]?=some d):d=.int (a+i)/\i<n:=by
 unfold Db at h;rw[AT] at h;cases q:(List.range n)[i]? with
 | none=>rw[q] at h;cases h
 | some k=>
   rw[q] at h;obtain⟨b,e⟩:=AZ.mp q;rw[List.getElem_range] at e;subst e;cases h;exact{rfl,by simpa using b}
theorem kh{α:Type}{f:α->D}(h:∀a,(f a).lw=true):∀l:List α,D.lwL (l.map f)=true
 | []=>rfl
 | a::l=>by simp only[BX,D.lwL,h a,kh h l,EG]
def ki(h:D.lwL l=true)(a:l.length<=1000):D.lw (.tup l)=true:=by
 simp only[D.lw,h,Bool.true_and,decide_eq_true_eq];exact aU a
theorem cq{α:Type}{f:α->D}{n:Nat}(h:∀a,(f a).dep<=n):∀l:List α,D.depL (l.map f)<=n
 | []=>AE _
 | a::l=>by
   have c:=h a;have b:=cq h l;simp only[BX,D.depL];omega
section
variable{S:Type}{E:AG->S->Prop}{Z:Ae}{st:S}{Q:Fl->S->Prop}{f fk fv:Fn S}{i j k:Nat}{t:AO S}{B:Ax S}
theorem gu(I:Ae->S->Prop)(μ:Ae->S->Nat)(l:∀Z st,I Z st->Aa (t Z st) (λb e=>if b=true then Aa (B Z e) (λg a=>match g with
 | .nx c=>I c a/\μ c a<μ Z st
 | .ct c=>I c a/\μ c a<μ Z st
 | .bk c=>Q (.nx c) a
 | .rt d=>Q (.rt d) a) E else Q (.nx Z) e) E):∀(n:Nat) (Z:Ae) (st:S),I Z st->μ Z st<n->Aa (Cu S t B n Z st) Q E
 | 0,_,_,_,h=>absurd h (E9 _)
 | n+1,Z,st,h,m=>by
   unfold Cu;refine ae.mpr (aj (l Z st h) (λb e q=>?_) λx s z=>z);cases b with
   | false=>exact q
   | true=>
     have q:Aa (B Z e) _ E:=q;rw[if_pos rfl];refine ae.mpr (aj q (λg a z=>?_) λx s z=>z);cases g with
     | nx c=>exact gu I μ l n c a z.1 (by have:=z.2;omega)
     | ct c=>exact gu I μ l n c a z.1 (by have:=z.2;omega)
     | bk c=>exact z
     | rt d=>exact z
def qN(I:Ae->S->Prop)(μ:Ae->S->Nat)(e:I Z st)(g:∀Z st,I Z st->Aa (t Z st) (λb c=>if b=true then Aa (B Z c) (λd a=>match d with
 | .nx b=>I b a/\μ b a<μ Z st
 | .ct b=>I b a/\μ b a<μ Z st
 | .bk b=>Q (.nx b) a
 | .rt d=>Q (.rt d) a) E else Q (.nx Z) c) E):Aa (FJ S t B Z st) Q E:=by
 have h:=gu (Q:=Q) (E:=E) I μ g (μ Z st+1) Z st e (Nat.lt_succ_self _);rw[jq (n:=μ Z st+1) (λz=>by rw[z] at h;exact h)];exact h
end
def gv[∀i j,Decidable (C i j)]{i j:Int}(h:C i j):iOp C g (.int i) (.int j)=some (g i j):=if_pos h
section
variable{S:Type}{E:AG->S->Prop}{Z:Ae}{st:S}{Q:Fl->S->Prop}{F G:Ax S}
def qO(I:Ae->S->Prop)(d:Aa (F Z st) (λc a=>∃b,c=.nx b/\I b a) E)(f:∀b a,I b a->Aa (G b a) Q E):Aa (E3 S F G Z st) Q E:=
 ao.mpr (aj d (λc a ⟨b,e,h⟩=>by subst e;exact f b a h) λx s z=>z)
end
def eT{n:Nat}(h:n<=1000000):n<sizeLine:=by rw[sizeLine_eq];omega
def kj{l:List D}{v:Int}(a:0<=v)(b:v<l.length):∃d,BD l v=some d/\l[v.toNat]?=some d:=by
 have a:v.toNat<l.length:=by omega
 refine{l[v.toNat],?_,AU a};have:=ew (AU a);rwa [show ((v.toNat:Nat):Int)=v by omega] at this
def dG{v:Int}(m:D.immL l=true)(b:0<=v)(f:v<l.length):∃d∈l,Ba (.lst l) (.int v)=some d:=by
 obtain⟨d,e,c⟩:=kj b f;have a:=BI c;refine{d,a,?_};show im (BD l v)=_;rw[e];simp[im,qK.mp m d a]
def eU{v:Int}(m:d.imm=true)(b:0<=v)(h:l[v.toNat]?=some d):Ba (.lst l) (.int v)=some d/\Ba (.tup l) (.int v)=some d:=by
 have c:v<l.length:=by have:=(AZ.mp h).1;omega
 obtain⟨d',e,a⟩:=kj b c;rw[h] at a;cases a;constructor
 ·show im (BD l v)=_
  rw[e];simp[im,m]
 ·show im (BD l v)=_
  rw[e];simp[im,m]
def eV{i j:Int}:D.eqq (.int i) (.int j)=some (i == j):=by simp only[D.eqq]
def qP{i j:Str}:D.eqq (.str i) (.str j)=some (i == j):=by simp only[D.eqq]
def cr{neg:Bool}{i j:Int}:Bq neg (.int i) (.int j)=some (.bl (if neg then !(i == j) else (i == j))):=by
 unfold Bq;rw[if_pos (by simp[D.dep]),eV];rfl
def dH{neg:Bool}{i j:Str}:Bq neg (.str i) (.str j)=some (.bl (if neg then !(i == j) else (i == j))):=by
 unfold Bq;rw[if_pos (by simp[D.dep]),qP];rfl
theorem kl:∀{c d:List D},c.length=d.length->(AD k c (List.zipWith g c d)).isSome=(AD k c d).isSome
 | [],[],_=>rfl
 | a::c,b::d,h=>by
   show (AD k (a::c) (g a b::List.zipWith g c d)).isSome=_;unfold AD;by_cases e:AJ a=some k
   ·rw[if_pos e,if_pos e];rfl
   ·rw[if_neg e,if_neg e];exact kl (by simpa using h)
 | [],_::_,h=>by cases h
 | _::_,[],h=>by cases h
theorem km:∀{d c:List D},d.length=c.length->(AD k (d++[AH k']) (c++[v])).isSome=((AD k d c).isSome||decide (k'=k))
 | [],[],_=>by
   show (AD k [AH k'] [v]).isSome=_;unfold AD;rw[cH];by_cases e:k'=k
   ·rw[if_pos (by rw[e])];simp[e]
   ·rw[if_neg (λz=>e (Option.some.inj z))];simp[AD,e]
 | a::d,b::c,h=>by
   show (AD k (a::(d++[AH k'])) (b::(c++[v]))).isSome=_;unfold AD;by_cases e:AJ a=some k
   ·rw[if_pos e,if_pos e];rfl
   ·rw[if_neg e,if_neg e];exact km (by simpa using h)
 | [],_::_,h=>by cases h
 | _::_,[],h=>by cases h
def eW(h:a.length=b.length):(AS k v a b).1.length=(AS k v a b).2.length/\(AS k v a b).1.length<=a.length+1:=by
 unfold AS;split
 ·simp[List.length_zipWith,h]
 ·simp[h]
open H in
def qQ(h:a.length=b.length):(AD k (AS k' v a b).1 (AS k' v a b).2).isSome=((AD k a b).isSome||decide (k'=k)):=by
 unfold AS;split
 ·rename_i c
  rw[kl h];by_cases e:k'=k
  ·subst e;simp[c]
  ·simp[e]
 ·exact km h
instance Holds(d:D)(n:Nat)(P:List Ak->Prop):Prop:=∃ks vs,d=.dct (.non::ks) vs/\D.immL vs=true/\ks.length=vs.length/\ks.length<=n/\∀k,(AD k ks vs).isSome=true↔P k
def Holds.put{a c:List D}{n:Nat}{P:List Ak->Prop}{k:List Ak}{v:D}(h:Holds (.dct (.non::a) c) n P)(i:v.imm=true):Holds (.dct (.non::(AS k v a c).1) (AS k v a c).2) (n+1) (λq=>P q\/k=q):=by
 obtain⟨g,f,e,d,b,l,j⟩:=h;cases e;refine{_,_,rfl,eK i d,(eW b).1,by have:=(eW (k:=k) (v:=v) b).2;omega,λq=>?_};rw[qQ b,Bool.or_eq_true,j q,decide_eq_true_eq]
theorem Holds.all:∀{ps:List (List Ak×D)} {c d:List D} {n:Nat} {P:List Ak->Prop},Holds (.dct (.non::c) d) n P->(∀p∈ps,p.2.imm=true)->Holds (.dct (.non::(Cw ps (c,d)).1) (Cw ps (c,d)).2) (n+ps.length) (λq=>P q\/∃p∈ps,p.1=q)
 | [],c,d,n,P,h,_=>by
   obtain⟨b,a,e,f,g,j,i⟩:=h;exact{b,a,e,f,g,j,λq=>by rw[i q];simp}
 | p::ps,c,d,n,P,h,l=>by
   have m:=Holds.all (ps:=ps) (h.put (k:=p.1) (l p 'd')) λq h=>l q (by simp[h])
   obtain⟨b,a,e,f,g,j,i⟩:=m;refine{b,a,e,f,g,by simp;omega,λq=>?_};rw[i q];simp only[AK,exists_eq_or_imp];constructor
   ·rintro ((a | a) | a)
    ·exact .inl a
    ·exact .inr (.inl a)
    ·exact .inr (.inr a)
   ·rintro (a | a | a)
    ·exact .inl (.inl a)
    ·exact .inl (.inr a)
    ·exact .inr a
def Holds.in_{n:Nat}(h:Holds d n P)(f:AJ k=some kk){b:Bool}(g:b=true↔P kk):Dt false k d=some (.bl b)/\Dt true k d=some (.bl (!b)):=by
 obtain⟨a,c,rfl,j,l,i,d⟩:=h;have e:(AD kk a c).isSome=b:=by rw[Bool.eq_iff_iff,d,g]
 constructor
 ·show (AJ k).map _=_
  rw[f];show some (D.bl (AD kk a c).isSome)=_;rw[e]
 ·show (AJ k).map _=_
  rw[f];show some (D.bl (!(AD kk a c).isSome))=_;rw[e]
def Holds.flat{d:D}{n:Nat}{P:List Ak->Prop}(h:Holds d n P):d.flat=true:=by
 obtain⟨e,b,rfl,a,d,c,f⟩:=h;exact a
def Holds.nil{n:Nat}:Holds (.dct [.non] []) n (λ_=>False):={[],[],rfl,rfl,rfl,AE _,λk=>by simp[AD]}
def Holds.imp{n m:Nat}(h:Holds d n P)(a:n<=m)(f:∀k,P k↔P' k):Holds d m P':=by
 obtain⟨a,g,e,b,c,i,d⟩:=h;exact{a,g,e,b,c,'o',λk=>by rw[d k,f k]}
instance FrT(K:FG)(a:Addr)(xs:List V):Prop:=∃(o:Obj) (its:Array Value) (n:Nat),K.lookup a=some o/\o.cls=.type "tuple"/\o.data=.seq its n/\its.size<=sizeLine/\Aq xs its.toList
def FrT.sq{K:FG}{a:Addr}{b:List V}{H:Hp}(h:FrT K a b):AN K H a b:=.inr h
def Iy(K:FG)(a:Addr)(tbl:List (Int×Int)):Prop:=∃vs,FrT K a vs/\vs.length=tbl.length/\∀(i:Nat) (p:Int×Int),tbl[i]?=some p->∃b,vs[i]?=some (.ref b)/\FrT K b [.int p.1,.int p.2]
section
variable{X:Cx}{S:Type}{W:Wd S}{c:Dx W}{g ga gb gc:Gr}{a b:Expr}{fa fb fc:Fn S}{pos p2:Pos}{E:AG->S->Prop}{Z:Ae}{st:S}
def qR{x:Str}{i:Int}(f:∃t,X.mg x=some (.int i t))(e:Gl X x)(d:autoParam 'u' uD):DE X c g (.Name x pos) (fC S (.int i)):=by
 obtain⟨t,h⟩:=f;exact(iy (v:=.int i) e h ⟨t,rfl⟩ d).imp λY H Q ⟨Z,st,R,d,w⟩=>w _ _ Af.refl d (AB.val R (show AB c H H (.int _) (.int _) from Is.int_iff.mpr rfl) g)
def JO(S:Type)(tbl:List (Int×Int))(i j:Nat)(f:Fn S):Ax S:=λZ st=>(f Z st).bind λd st1=>match d with
 | .int k=>if 0<=k then match tbl[k.toNat]? with
  | some p=>(Aw (put Z i (.int p.1)) st1).bind λZ1 st2=>(Aw (put Z1 j (.int p.2)) st2).bind λZ2 st3=>.ok (.nx Z2) st3
  | none=>.bad
   else .bad
 | _=>.bad
open H in
def wR{x h d:Str}{e:Expr}{f:Fn S}{tbl:List (Int×Int)}{i j:Nat}{a0:Addr}{z l p2 m A:Pos}{kt}(hc:X.calm=true)(o:c.K=X.K)(y:∃a0,X.mg x=some (.ref a0)/\Iy X.K a0 tbl)(O:Gl X x)(B:X.N.Nodup)(I:X.N[i]?=some h)(C:X.N[j]?=some d)(R:Loc X.env.scope h)(Y:Loc X.env.scope d)(N:DE X c .R e f)(s:GG e)(U:autoParam 'u' uD)(o:X.fn h=true\/X.env.scope.names.lookup h=some .local:=by first | exact .inl rfl | exact .inr rfl | assumption)(r:X.fn d=true\/X.env.scope.names.lookup d=some .local:=by first | exact .inl rfl | exact .inr rfl | assumption)(Q:autoParam (swapsWithSole [.Tuple [.Name h l,.Name d p2] kt m] (.Subscript (.Name x z) e A) pos.line X.env=pure false) uR)(M:autoParam (swappedStores [.Tuple [.Name h l,.Name d p2] kt m] (.Subscript (.Name x z) e A) X.env=pure none) uR)(J:autoParam ((assignEach [.Tuple [.Name h l,.Name d p2] kt m] X.env).map (·.2)=[assign (.Tuple [.Name h l,.Name d p2] kt m) X.env]) uR)(G:autoParam ((assignEach [.Name h l,.Name d p2] X.env).length=2) uR)(p:autoParam ((assignEach [.Name h l,.Name d p2] X.env).findIdx? (·.1)=none) uR)(u:autoParam ((assignEach [.Name h l,.Name d p2] X.env).map (·.2)=assign (.Name h l) X.env::(assignEach [.Name d p2] X.env).map (·.2)) uR)(q:autoParam ((assignEach [.Name d p2] X.env).map (·.2)=assign (.Name d p2) X.env::(assignEach [] X.env).map (·.2)) uR) :
 DS X c (.Assign [.Tuple [.Name h l,.Name d p2] kt m] (.Subscript (.Name x z) e A) pos) (JO S tbl i j f):=by
 obtain⟨a0,y,A,P,d,T⟩:=y;refine(fD (fL iU (iy (v:=.ref a0) O y rfl U) N s) (fy (n:=2) hc (cV (eh (i:=i) B I R o) (cV (eh (i:=j) B C Y r) fx q) u) G p) Q M J).imp λD Y H hI128=>?_
 obtain⟨Z,st,R,l,w⟩:=hI128;refine{Z,st,R,l,aj (ae.mp w) (λd f q v H1 j h z=>?_) λx f q m e d=>q m (e.f0 R) d};split at q
 ·rename_i k
  split at q
  ·rename_i d
   split at q
   ·rename_i p m
    obtain⟨d,e,q⟩:=ar.mp (ae.mp q);obtain⟨f,d,q⟩:=ar.mp (ae.mp q);obtain⟨r,rfl⟩:=bV e;obtain⟨f,rfl⟩:=bV d;obtain⟨b,o,e⟩:=T k.toNat p m;have z':Is c.K 'w' H1 (.int k) v:=z.toR;have d:=(R.ext l j).setB r (show Is c.K (Av c Y Z) H1 (.int p.1) (.int p.1) from Is.int_iff.mpr rfl);have R2:=d.setB f (show Is c.K _ H1 (.int p.2) (.int p.2) from Is.int_iff.mpr rfl);refine{a0,A,k,.ref b,rfl,Is.int_iff.mp z',P.sq,?_,b,[.int p.1,.int p.2],rfl,e.sq,rfl,_,_,rfl,_,_,rfl,rfl,?_}
    ·have:=ew o
     rwa [show ((k.toNat:Nat):Int)=k by omega] at this
    ·exact q _ _ ((Af.frm j).trans (aZ.trans aZ)) h R2
   ·exact q.elim
  ·exact q.elim
 ·exact q.elim
def Ge(d k x:D):Option D:=match d with
 | .dct (.non::ks) vs=>(AJ k).bind λkk=>im (some ((AD kk ks vs).getD x))
 | _=>none
def Iz(S:Type)(f1 f2 f3:Fn S):Fn S:=λZ st=>(f1 Z st).bind λd st1=>match d with
 | .dct (.non::ks) vs=>(f2 Z st1).bind λk st2=>(f3 Z st2).bind λx st3=>Aw (Ge (.dct (.non::ks) vs) k x) st3
 | _=>.bad
open H in
def wS(j:X.A.units+2<cLine)(d:DE X c ga o fa)(h:DE X c gb e fb)(i:DE X c gc f fc)(m:M2 X o "get" apos e f cpos):DE X c g (.Call (.Attribute o "get" apos) [e,f] [] cpos) (Iz S fa fb fc):=
 (oZ j d h i m).imp λY H Q hI44=>by
  obtain⟨Z,st,R,f,w⟩:=hI44;have w':=ae.mp w;refine{Z,st,R,f,aj w' (λd e q v H1 l i z=>?_) λx e q=>q};split at q
  ·rename_i m o
   have u:Is c.K 'w' H1 (.dct (.non::m) o) v:=z.toR;obtain⟨a,us,s,n,d,j⟩:=Is.dct_iff.mp u;have d:IsD H1 a:=by
    rcases j with⟨r,_,_,h⟩ | ⟨r,_,_,h⟩
    ·exact .inl {_,.inl h}
    ·exact .inr {_,.inl h}
   refine{a,s,d,Z,e,R.ext f l,i,aj (ae.mp q) (λk e q C H2 h d G=>?_) λx e q H2 h d=>q H2 (l.trans h) d};have R2:=(R.ext f l).ext i h;refine{Z,e,R2,d,aj (ae.mp q) (λx f q A H3 j e I=>?_) λx f q H3 j e=>q H3 ((l.trans h).trans j) e};obtain⟨p,f,q⟩:=ar.mp q;have z:=(l.trans h).trans j;have B:=R2.ext d j;have y:Is c.K 'w' H3 (.dct (.non::m) o) v:=(u.ext h i λ_ n=>n).ext j d λ_ n=>n
   have u:Is c.K 'w' H3 k C:=G.toR.ext j d;have n:Is c.K 'w' H3 x A:=I.toR;cases j:AJ k with
   | none=>unfold Ge at f;rw[j] at f;cases f
   | some r=>
     have f:im (some ((AD r m o).getD x))=some p:=by unfold Ge at f;rw[j] at f;exact f
     obtain⟨h,l⟩:=fU f;obtain⟨o,o',i,m,d⟩:=gf j u y;rw[s] at i;have i:a=o:=by cases i;rfl
     subst i;refine{o',m,q _ H3 z e ?_};have y:Is c.K 'w' H3 p (o'.getD A):=by
      rcases d with⟨f,i⟩ | ⟨d',v',f,i,d⟩
      ·rw[f] at h;rw[i]
       cases h;exact n
      ·rw[f] at h;rw[i]
       cases h;exact d
     exact(AB.val B (show AB c H3 H3 p _ from Is.ofImm l y) g).back z e
  ·exact q.elim
def IA:D->D->Option D
 | .lst l,.int k=>if D.immL l=true/\-(2 ^ 63)<=k/\k<2 ^ 63/\l.length*k.toNat<=sizeLine then some (.lst (List.replicate k.toNat l).flatten) else none
 | _,_=>none
theorem kn{K:FG}{A:Addr->Prop}{H:Hp}{l:List D}{d:List V}(h:aa K A H l d):∀k:Nat,aa K A H (List.replicate k l).flatten (List.replicate k d).flatten
 | 0=>aa.nil.mpr rfl
 | k+1=>by
   rw[Fs,Fs,Fx,Fx];exact h.append (kn h k)
theorem ko(h:D.immL l=true):∀k:Nat,D.immL (List.replicate k l).flatten=true
 | 0=>rfl
 | k+1=>by
   rw[Fs,Fx];exact bI h (ko h k)
open H in
def qS:Bu c Hj IA:=by
 intro h f i e H st d Q h f m e q;unfold IA at e;split at e
 ·rename_i l k
  split at e
  ·rename_i d
   cases e;obtain⟨a,us,l,n,j,i⟩:=Is.lst_iff.mp f;refine{a,k,us,l,Is.int_iff.mp m,j,d.2.1,d.2.2.1,by rw[<-i.length];exact d.2.2.2,λp f=>?_};exact q _ _ (Af.laid f) (aJ h f) (AB.lst h f (λ_ n=>n) (ko d.1 _) (kn i _))
  ·cases e
 ·cases e
def IB(a b:D):Option D:=(iOp DJ (λi j=>.int (i*j)) a b).or (IA a b)
def wT:AX X (binaryOp .Mult) (λx y H Q=>rI DJ (λi j=>.int (i*j)) x y H Q\/Hj x y H Q):=ce.or oF
def wU:Bu c (λx y H Q=>rI DJ (λi j=>.int (i*j)) x y H Q\/Hj x y H Q) IB:=pH.or qS
def wp_sTab2{Q:Fl->S->Prop}{i j:Nat}{f:Fn S}{tbl:List (Int×Int)}:Aa (JO S tbl i j f Z st) Q E↔Aa (f Z st) (λd e=>∃k p,d=.int k/\0<=k/\tbl[k.toNat]?=some p/\∃h,put Z i (.int p.1)=some h/\∃f,put h j (.int p.2)=some f/\Q (.nx f) e) E:=aG λd e=>by
 cases d with
 | int k=>
   refine gq ?_;refine(eN.trans ?_).trans exists_and_left.symm;refine and_congr Iff.rfl ?_;cases tbl[k.toNat]? with
   | none=>exact dC
   | some p=>exact dz (eP λ_=>eO)
 | _=>exact gp λb e=>by cases e
open H in
def wp_fGet{Q:D->S->Prop}{m i n:Fn S}:Aa (Iz S m i n Z st) Q E↔Aa (m Z st) (λd j=>∃f h,d=.dct (.non::f) h/\Aa (i Z j) (λk e=>Aa (n Z e) (λx l=>Aa (Aw (Ge (.dct (.non::f) h) k x) l) Q E) E) E) E:=by
 unfold Iz;rw[ae];refine iff_of_eq (congrArg (λz=>Aa (m Z st) z E) (funext λd=>funext λj=>propext ?_));by_cases m:∃f h,d=.dct (.non::f) h
 ·obtain⟨f,h,rfl⟩:=m
  show Aa ((i Z j).bind λk e=>(n Z e).bind λx l=>Aw (Ge (.dct (.non::f) h) k x) l) Q E↔_;rw[ae];simp only[ae];exact{λq=>⟨f,h,rfl,q⟩,λ⟨i,d,e,q⟩=>by cases e;exact q}
 ·constructor
  ·intro q
   split at q
   ·rename_i f h
    exact absurd ⟨f,h,rfl⟩ m
   ·exact q.elim
  ·rintro ⟨f,h,rfl,_⟩
   exact absurd ⟨f,h,rfl⟩ m
end
def qT{K:FG}{a e g j f:Addr}{p0 p1 p2 p3:Int×Int}{c d b q l:Option Addr}{i p r o m:Array (Option Value)}{n G s u J:Nat}{v A x B I y z C:Tok}(h:K.lookup a=some {.type "tuple",c,.seq #[.ref e,.ref g,.ref j,.ref f] n,i})(E:K.lookup e=some {.type "tuple",d,.seq #[.int p0.1 v,.int p0.2 I] G,p})(v:K.lookup g=some {.type "tuple",b,.seq #[.int p1.1 A,.int p1.2 y] s,r})(A:K.lookup j=some {.type "tuple",q,.seq #[.int p2.1 x,.int p2.2 z] u,o})(q:K.lookup f=some {.type "tuple",l,.seq #[.int p3.1 B,.int p3.2 C] J,m}):Iy K a [p0,p1,p2,p3]:=by
 have d:∀{b:Addr} {p:Int×Int} {c:Option Addr} {i:Array (Option Value)} {n:Nat} {t u:Tok},K.lookup b=some ⟨.type "tuple",c,.seq #[.int p.1 t,.int p.2 u] n,i⟩->FrT K b [.int p.1,.int p.2]:=λ{b p c i n t u} h=>
  {_,_,_,h,rfl,rfl,by show 2<=sizeLine;decide,.cons ⟨t,rfl⟩ (.cons ⟨u,rfl⟩ .nil)}
 refine{[.ref e,.ref g,.ref j,.ref f],{_,_,_,h,rfl,rfl,by show 4<=sizeLine;decide,.cons rfl (.cons rfl (.cons rfl (.cons rfl .nil)))},rfl,λi p a=>?_}
 match i,a with
 | 0,a=>cases a;exact{e,rfl,d E}
 | 1,a=>cases a;exact{g,rfl,d v}
 | 2,a=>cases a;exact{j,rfl,d A}
 | 3,a=>cases a;exact{f,rfl,d q}
 | i+4,a=>simp at a
end L2
namespace PySem
def qU{T a:String}(g:typeLookup (.type T) "__init__" = pure (some (.builtin "object.__init__")))(h:Bind.madeBy (.type T)=pure (some a))(d:(some a != some "object.__new__")=true):Meets (Builtin.«object.__init__» {e::more,kw}) (λ_ R s=>s.TypeIs e T/\R (.ok (.ret .none)) s):=
 .of_wp λprog w A R s c=>by
  obtain⟨f,b⟩:=c;cases more with
  | nil=>
    cases kw with
    | nil=>exact An {_,rfl,b}
    | cons=>
      repeat (any_goals (first | assumption | wp_step))
      exact{_,rfl,b}
  | cons=>
    repeat (any_goals (first | assumption | wp_step))
    exact{_,rfl,b}
def qV{T b:String}(a:TypeCalled T b "object.__init__")(o:(some b != some "object.__new__")=true)(I:checkTypeCall T ⟨f,kw⟩=pure ())(m:checkBuiltinCall b {.type T::f,kw}=pure ())(n:∀x,argsOk "object.__init__" {x::f,kw})(C:entryFor table b=some B)(g:Meets (B {.type T::f,kw}) S)(h:S A.in1 (wants (λx j=>j.TypeIs x T/\Q x j) E) s):wpAny 'r' A (call (.type T) f kw) Q E s:=by
 obtain⟨c,N,p⟩:=a.mro;have l:=a.made;have u:=a.sub;refine wpAny_call (codeAny_of_tree (An {Code.quiet_builtin _ (by decide +kernel),codeAny_builtin F.entry_type_call ?_}));rw[Around.under_plain (weight_type_call_type T f kw) (units_type_call_type T f kw)];have J:=a.notType;have P:=a.canCreate;repeat (any_goals (first | assumption | wp_step))
 refine codeAny_mono (codeAny_call_builtin a.plain C (wpAny_of_eq m (g prog w A.in1 _ s h))) λr j i=>?_
 cases r with
 | error e=>exact i
 | ok v=>
   cases v with
   | ret x=>
     have O:j.TypeIs x T:=i.1;have y:=a.init.lookup;have G:=a.init.bind x;repeat (any_goals (first | assumption | wp_step))
     refine codeAny_mono (codeAny_call_builtin a.init.plain F.entry_object_init (a.init.check _ _ _ _ _ _ _ _ i.1 (n x) (qU a.init.lookup a.made o prog w A.in1 (wants (λr q=>r=.none/\Q x q) E) j ⟨i.1,rfl,i.2⟩))) λz q d=>?_
     cases z with
     | error e=>exact d
     | ok f2=>
       cases f2 with
       | ret r=>
         obtain⟨rfl,M⟩:=d;repeat (any_goals (first | assumption | wp_step))
       | _=>exact d.elim
   | _=>exact i.elim
open H in
def qW(l:Addr)(t:Tok)(a:Array Value)(n:Nat)(b:Option Addr)(c:Array (Option Value)) :
 Meets (Builtin.«enumerate.__new__» {[.type "enumerate",.ref l],[("start",.int 1 t)]}) (λ_ R s=>s.heap.get? l=some { cls:=.type "list",dict:=b,data:=.seq a n,slots:=c }/\
  R (.ok (.ret (.ref (s.heap.push { cls:=.type "list_iterator",data:=.fields #[.ref l,.int 0 0] }).objs.size)))
    { s with heap:=(s.heap.push { cls:=.type "list_iterator",data:=.fields #[.ref l,.int 0 0] }).push { cls:=.type "enumerate",data:=.fields #[.none,.bool false,.ref s.heap.objs.size,rawInt 1,.none,.none] } }):=
 .of_wp λprog w A R s h=>by
  obtain⟨j,g,d,i,f⟩:=s;obtain⟨b,h⟩:=h;have c:=sub_enumerate;have e:Heap.IsList (Shared.heap ⟨j,g,d,i,f⟩) l a:={_,b,rfl,n,rfl}
  wp_walk using AutoSeq1.wpAny_loadPart' b
  refine wpAny_stack_any λa=>An ?_
  split
  ·rename_i c _ _ _ _ _
   cases (c == Value.type "enumerate")<;>(wp_walk using AutoSeq1.wpAny_loadPart' b,wpAny_pyIter_list e;exact{_,rfl,h})
  ·(wp_walk using AutoSeq1.wpAny_loadPart' b,wpAny_pyIter_list e;exact{_,rfl,h})
def qX(a v:Value):checkTypeCall "enumerate" {[a],[("start",v)]}=pure ():=by kernel_rfl
def qY(a v:Value):checkBuiltinCall "enumerate.__new__" {[.type "enumerate",a],[("start",v)]}=pure ():=by kernel_rfl
def qZ(x a v:Value):argsOk "object.__init__" {[x,a],[("start",v)]}:=by kernel_rfl
def q5(g:s.heap.IsList l items)(h:∀a,IsEnum a (s.heap.objs.size+1) s.heap.objs.size 1 .none->a.IsListIter s.heap.objs.size l 0->(∀b o,s.heap.get? b=some o->a.get? b=some o)->Q (.ref (s.heap.objs.size+1)) { s with heap:=a }) :
 wpAny 'r' A (call (.type "enumerate") [.ref l] [("start",.int 1 t)]) Q E s:=by
 obtain⟨⟨c,e,j,f⟩,i,d,n,a⟩:=g;have d:c=.type "list":=d;have a:j=.seq items n:=a;subst d a;refine qV F.called_enumerate 'z' (qX _ _) (qY _ _) (λx=>qZ x _ _) F.entry_enumerate_new (qW l t items n e f) {i,?_};generalize a:s.heap.push { cls:=.type "list_iterator",data:=.fields #[.ref l,.int 0 0] }=g;have d:g.objs.size=s.heap.objs.size+1:=by rw[<-a];exact DP ..
 have c:IsEnum (g.push { cls:=.type "enumerate",data:=.fields #[.none,.bool false,.ref s.heap.objs.size,rawInt 1,.none,.none] }) (s.heap.objs.size+1) s.heap.objs.size 1 .none:=by
  have:=Bi g (o:={ cls:=.type "enumerate",data:=.fields #[.none,.bool false,.ref s.heap.objs.size,rawInt 1,.none,.none] }) rfl;rw[d] at this;exact this
 have e:g.get? s.heap.objs.size=some { cls:=.type "list_iterator",data:=.fields #[.ref l,.int 0 0] }:=by rw[<-a];exact Bi _ rfl
 show _/\_;rw[d];exact{{_,c,rfl},h _ c {_,AM _ e,rfl,rfl} λb o x=>AM _ (by rw[<-a];exact AM _ x)}
end PySem
namespace L2
def q7{P:Program}{w:World}{K:FG}(a b:Addr):Ig P w K (λH g=>Rd H a (.lst g)) (λi h=>h.IsListIter b a i) b where
 obj:=λ⟨o,a,_,d⟩=>{o,a,λv z=>by rw[d] at z;cases z}
 keep:=λt q=>t.at q
 inj:=λ_ I a c=>I.list_inj (.inl a) (.inl c)
 item:=λ_ I b e c=>by
  obtain⟨d,a,p,_⟩:=I.list (.inl b);obtain⟨u,f,i⟩:=a.get e;exact{u,i,λA E Q j=>wpAny_nextOf_list_item c p.isList (by simpa using f) j}
 done:=λ_ I b e c A E Q f h=>by
  obtain⟨d,a,p,_⟩:=I.list (.inl b);have d:=a.length;exact wpAny_nextOf_list_end f c p.isList (by simp;omega) h
open H in
def q8{P:Program}{w:World}{K:FG}{c:List Expr}{x1}{pos:Pos}(b:Nat)(a e d:Addr):EY P w K (.Tuple c x1 pos) (GL b λH f=>Rd H a (.lst f)) [e,d] e (λi h=>e≠d/\(∃c,IsEnum h e d (i+b:Nat) c)/\h.IsListIter d a i):=jx (q7 a d)
def q9{pos:Pos}{T:String}{e:Expr}{a:List Expr}{b:List Keyword}{Q:Value->Shared->Prop}(h:wpAny M A (spliced (backTo pos (starEach (e::a) env))) (λn c=>wpAny M A (evalAll ((backToKw pos (keywordEach b env)).map (·.2)))
  (λj d=>wpAny M A (call (.type T) n (((backToKw pos (keywordEach b env)).filterMap (·.1)).zip j)) Q E d) E c) E s)(m:autoParam (backTo pos (starEach (e::a) env)=(false,eval e env)::backTo pos (starEach a env)) uR)(g:autoParam ((backTo pos (starEach (e::a) env)).any (·.1)=false) uR)(i:autoParam ((backToKw pos (keywordEach b env)).all (·.1.isSome)=true) uR)(f:autoParam ((backToKw pos (keywordEach b env)).any (·.1.isNone)=false) uR) :
 wpAny M A (callWith pos (.type T) [] (backTo pos (starEach (e::a) env)) (backToKw pos (keywordEach b env))) Q E s:=by
 unfold callWith;have l:wpAny M A (evalArgs (.type T) true (backTo pos (starEach (e::a) env)) (backToKw pos (keywordEach b env))) (λa c=>wpAny M A (call (.type T) ([]++a.pos) a.kw) Q E c) E s:=by
  rw[m] at h ⊢;exact evalArgs_kwB i h
 refine Ac (wpAny_holding (C4 l (λa c b=>Ac (wpAny_standAt ?_)) λ_ _ x=>x));simp only[g,f,Bool.or_false];refine Ac (An ?_);exact Ac (C4 b (λr d a=>Ac (wpAny_holding (wpAny_point (An a)))) λ_ _ x=>x)
section
variable{x1:Nat}{S:Type}{i:Nat}
def JP(b:Nat)(ta:TA):TI:=λY H R=>ta Y H λvs H1=>∃a xs,vs=[.ref a]/\Rd H1 a (.lst xs)/\R (GL b λH xs=>Rd H a (.lst xs)) H1
def re{a:Expr}{c:TA}{p pos kp d:Pos}{j}(g:Gl X "enumerate")(l:X.mg "enumerate" = none)(f:PA X [a] c)(e:autoParam (starEach [a] X.env=[(false,eval a X.env)]) uR):PI X (.Tuple elts x1 tpos) (.Call (.Name "enumerate" p) [a] [{some "start",.Constant (.int 1) j d,kp}] pos) (JP 1 c):=by
 intro b s Y H R I h;show wpAny _ _ (do callWith pos (<-eval (.Name "enumerate" p) X.env) [] (backTo pos (starEach [a] X.env)) (backToKw pos (keywordEach [⟨some "start",.Constant (.int 1) j d,kp⟩] X.env))) _ _ _;refine Ac (cc I g l boot_enumerate (q9 (ai (f pos b s Y H _ I h) λus a ⟨c,H1,I1,d,f⟩=>kws_cons (ai (aO b a Y H1 (λv c=>v=.int 1/\c=H1) I1 ⟨rfl,rfl⟩) λu a ⟨v,H2,I2,c,b⟩=>kws_nil ?_)) (by rw[e];rfl) (by rw[e];rfl)));obtain⟨rfl,rfl⟩:=b;obtain⟨t,rfl⟩:=c;obtain⟨l,e,rfl,b,q⟩:=f;cases d with
 | cons r c=>
   cases c;cases r;obtain⟨d,e,f,g⟩:=I2.list (.inl b);refine q5 (t:=t) f.isList λc d e b=>?_
   refine wpAny_pyIter_enum (s:={ a with heap:=c }) d ?_;refine{a.heap.objs.size+1,[a.heap.objs.size+1,a.heap.objs.size],_,_,H2,rfl,I2.kept (t':=a.toks) b,q8 1 l _ _,{Nat.succ_ne_self _,{_,d},e},λb c=>?_,q};have c:a.heap.objs.size<=b:=by
    rcases AK.mp c with z | z
    ·rw[z];exact Ff _
    ·exact BY (Bz.mp z).symm
   exact I2.fpOk c (I2.hok.fresh c)
def Hw(b:Nat):List D->Option (List D)
 | [.lst l]=>some (Em b l)
 | [.fl l]=>some (Em b l)
 | _=>none
open H in
def rf{b:Nat}(h:∀d,PA X [a] d->PI X (.Tuple elts x1 tpos) e (JP b d))(g:DB X c [a] f):DI X c (.Tuple elts x1 tpos) e (FI S (Hw b) f):=
 (h _ g).imp λY H R hI45=>by
  obtain⟨Z,c,d,b,w⟩:=hI45;refine{Z,c,d,b,aj (ae.mp w) (λl c q b H1 e d z=>?_) λx c q=>q};obtain⟨m,b,q⟩:=ar.mp q;unfold Hw at b;split at b
  ·rename_i l
   cases b;obtain⟨v,r,c,h,f⟩:=aa.cons.mp z;obtain⟨a,g,j,s0,i,m⟩:=Is.asL h rfl;rw[aa.nil.mp f,j] at c;exact{a,g,c,s0,q _ H1 e d (fZ m i)}
  ·rename_i l
   cases b;obtain⟨v,r,c,h,f⟩:=aa.cons.mp z;obtain⟨a,g,j,s0,i,m⟩:=Is.asL h rfl;rw[aa.nil.mp f,j] at c;exact{a,g,c,s0,q _ H1 e d (fZ m i)}
  ·cases b
def wV{a:Expr}{f:AY S}{p pos kp d:Pos}{j}(b:Gl X "enumerate")(e:X.mg "enumerate" = none)(g:DB X c [a] f)(l:autoParam (starEach [a] X.env=[(false,eval a X.env)]) uR):DI X c (.Tuple elts x1 tpos) (.Call (.Name "enumerate" p) [a] [{some "start",.Constant (.int 1) j d,kp}] pos) (FI S (Hw 1) f):=
 rf (λ_ h=>re b e h l) g
end
mutual
noncomputable def aD:D->PyData
 | .non=>.none
 | .bl b=>.bool b
 | .int i=>.int i
 | .str x=>.str x
 | .tup l=>.tuple (ba l)
 | .lst _=>.none
 | .dct _ _=>.none
 | .fd _ _=>.none
 | .fl l=>.list (ba l)
noncomputable def ba:List D->List PyData
 | []=>[]
 | d::l=>aD d::ba l
end
mutual
noncomputable def szD:D->Nat
 | .int _=>1921
 | .str x=>(reprText x).length
 | .tup l=>bd l+3
 | .fl l=>bd l+3
 | _=>5
noncomputable def bd:List D->Nat
 | []=>0
 | d::l=>szD d+2+bd l
end
mutual
noncomputable def aH:D->Bool
 | .int i=>decide (i.natAbs.log2<1920)
 | .tup l=>bn l
 | .fl l=>bn l
 | _=>true
noncomputable def bn:List D->Bool
 | []=>true
 | d::l=>aH d&&bn l
end
mutual
noncomputable def dpD:D->Nat
 | .tup l=>bo l+1
 | .fl l=>bo l+1
 | _=>0
noncomputable def bo:List D->Nat
 | []=>0
 | d::l=>max (dpD d) (bo l)
end
mutual
theorem kq:∀d:D,(aD d).showable=aH d
 | .non=>rfl
 | .bl _=>rfl
 | .int _=>rfl
 | .str _=>rfl
 | .tup l=>by unfold aD PyData.showable aH;exact gw l
 | .fl l=>by unfold aD PyData.showable aH;exact gw l
 | .lst _=>rfl
 | .dct _ _=>rfl
 | .fd _ _=>rfl
theorem gw:∀l:List D,PyData.showableAll (ba l)=bn l
 | []=>rfl
 | d::l=>by unfold ba PyData.showableAll bn;rw[kq d,gw l]
end
mutual
theorem kr:∀d:D,(aD d).depth=dpD d
 | .non=>rfl
 | .bl _=>rfl
 | .int _=>rfl
 | .str _=>rfl
 | .tup l=>by unfold aD PyData.depth dpD;rw[gx l]
 | .fl l=>by unfold aD PyData.depth dpD;rw[gx l]
 | .lst _=>rfl
 | .dct _ _=>rfl
 | .fd _ _=>rfl
theorem gx:∀l:List D,PyData.depthAll (ba l)=bo l
 | []=>rfl
 | d::l=>by unfold ba PyData.depthAll bo;rw[kr d,gx l]
end
mutual
theorem ku:∀d:D,(aD d).hasDict=false
 | .non=>rfl
 | .bl _=>rfl
 | .int _=>rfl
 | .str _=>rfl
 | .tup l=>by unfold aD PyData.hasDict;exact gy l
 | .fl l=>by unfold aD PyData.hasDict;exact gy l
 | .lst _=>rfl
 | .dct _ _=>rfl
 | .fd _ _=>rfl
theorem gy:∀l:List D,PyData.hasDictAll (ba l)=false
 | []=>rfl
 | d::l=>by unfold ba PyData.hasDictAll;rw[ku d,gy l];rfl
end
mutual
theorem kx:∀d:D,aH d=true->(aD d).shown.length<=szD d
 | .non,_=>by show 4<=5;decide
 | .bl b,_=>by cases b<;>decide
 | .int i,h=>by
   unfold aH at h;have e:=int_text_length_le (k:=1920) 'z' (of_decide_eq_true h);show (Str.ofString (toString i)).length<=1921;rw[PySem.ofString_length];exact e
 | .str x,_=>Am _
 | .tup l,h=>by
   unfold aH at h;have e:=tupleText_len_le (PyData.shownAll (ba l));have a:=gz l h;unfold aD PyData.shown szD;omega
 | .fl l,h=>by
   unfold aH at h;have e:=listText_len_le (PyData.shownAll (ba l));have a:=gz l h;unfold aD PyData.shown szD;omega
 | .lst _,_=>by show 4<=5;decide
 | .dct _ _,_=>by show 4<=5;decide
 | .fd _ _,_=>by show 4<=5;decide
theorem gz:∀l:List D,bn l=true->((PyData.shownAll (ba l)).map (·.length)).sum+2*(PyData.shownAll (ba l)).length<=bd l
 | [],_=>Am _
 | d::l,h=>by
   unfold bn at h;have h:=GB.mp h;have a:=kx d h.1;have b:=gz l h.2;unfold ba PyData.shownAll bd;rw[BX,List.sum_cons,B4];omega
end
section
variable{S:Type}
mutual
theorem Ab.reads(I:Ab X y Y H s):∀(d:D) (v:V) (u:Value),d.imm=true->Is X.K A H d v->Aj v u->∃e,Reads s.heap u (aD d) e
 | .non,v,u,_,h,r=>by unfold Is at h;subst h;cases r;exact{_,.none}
 | .bl b,v,u,_,h,r=>by unfold Is at h;subst h;cases r;exact{_,.bool b}
 | .int i,v,u,_,h,r=>by unfold Is at h;subst h;obtain⟨t,rfl⟩:=r;exact{_,.int i t}
 | .str x,v,u,_,h,r=>by unfold Is at h;subst h;obtain⟨t,rfl⟩:=r;exact{_,.str x t}
 | .tup l,v,u,b,h,r=>by
   obtain⟨a,m,rfl,q,i⟩:=Is.tup_sq h;cases r;obtain⟨c,f,⟨o,p,j,n,d⟩,_⟩:=I.tuple q;obtain⟨e,g⟩:=Ab.readsL I l m c b i f;unfold aD;exact{e,.tuple p j d (by rw[List.toList_toArray];exact g)}
 | .fl l,v,u,b,h,r=>by
   obtain⟨a,s,m,rfl,q,i⟩:=Is.fl_iff.mp h;cases r;obtain⟨c,f,⟨o,n,p,j,_,d⟩,_⟩:=I.list (.inl (.inr ⟨s,q⟩));obtain⟨e,g⟩:=Ab.readsL I l m c b i f;unfold aD;exact{a::e,.list p j d (by rw[List.toList_toArray];exact g)}
 | .lst _,_,_,b,_,_=>by cases b
 | .dct _ _,_,_,b,_,_=>by cases b
 | .fd _ _,_,_,b,_,_=>by cases b
theorem Ab.readsL(I:Ab X m Y H s):∀(l:List D) (b:List V) (us:List Value),D.immL l=true->aa X.K A H l b->Aq b us->∃c,ReadsAll s.heap us (ba l) c
 | [],b,us,_,h,r=>by
   rw[aa.nil.mp h] at r;cases r;exact{_,.nil}
 | d::l,b,us,a,h,r=>by
   unfold D.immL at a;have a:=GB.mp a;obtain⟨v,w,rfl,i,j⟩:=aa.cons.mp h;cases r with
   | cons f e=>
     obtain⟨c,g⟩:=Ab.reads I d v _ a.1 i f;obtain⟨d,c⟩:=Ab.readsL I l w _ a.2 j e;exact{_,.cons g c}
end
def E6(l:List D):Prop:=D.immL l=true/\bn l=true/\bo l<60/\bd l+3<=sizeLine
@[reducible]instance (l:List D):Decidable (E6 l):=by unfold E6;infer_instance
def FM:List D->Option D
 | [.tup l]=>if E6 l then some (.str (aD (.tup l)).shown) else none
 | [.fl l]=>if E6 l then some (.str (aD (.fl l)).shown) else none
 | [.int i]=>if i.natAbs.log2<1920 then some (.str (toString i)) else none
 | _=>none
open H in
def wW{k:Nat}(b:AQ k X.A):Co X (.type "str") (λn H Q=>∃(A:Addr->Prop) (v:V) (d:D) (t:Str),n=[v]/\Is X.K A H d v/\FM [d]=some (.str t)/\Q (.str t) H):=by
 intro c s Y H n us Q I r h;obtain⟨A,v,d,t,rfl,i,e,q⟩:=h;obtain⟨u,rfl,m⟩:=bq r;have a:=b.units;have f:∀(d:D) (a:Addr),d.imm=true->Is X.K A H d (.ref a)->aH d=true->dpD d<=60->szD d<=sizeLine->Q (.str (aD d).shown) H->wpAny 'e' X.A (call (.type "str") [.ref a]) (EP X c Y Q) X.xe s:=λd a g i c j h q=>by
  obtain⟨o,l⟩:=Ab.reads I d (.ref a) (.ref a) g i rfl;have o:=kx d c;refine str_of_reads l (by rw[kq];exact c) (PyData.noDict_hsm (ku _)) b.gd (by rw[kr];omega) (λb o e=>e) (λl t b k=>?_) 'o';exact{.str (aD d).shown,H,I.kept k,⟨t,rfl⟩,q}
 cases d with
 | tup l=>
   have e:(if E6 l then some (D.str (aD (.tup l)).shown) else none)=some (.str t):=e;split at e
   ·rename_i b
    cases e;obtain⟨g,c,j,h⟩:=b;obtain⟨a,d,rfl,_,_⟩:=Is.tup_iff.mp i;cases m;exact f (.tup l) a g i c (by unfold dpD;omega) (by unfold szD;exact h) q
   ·cases e
 | fl l=>
   have e:(if E6 l then some (D.str (aD (.fl l)).shown) else none)=some (.str t):=e;split at e
   ·rename_i b
    cases e;obtain⟨g,c,j,h⟩:=b;obtain⟨a,o,d,rfl,_,_⟩:=Is.fl_iff.mp i;cases m;exact f (.fl l) a g i c (by unfold dpD;omega) (by unfold szD;exact h) q
   ·cases e
 | int j=>
   have e:(if j.natAbs.log2<1920 then some (D.str (toString j)) else none)=some (.str t):=e;split at e
   ·rename_i b
    cases e;rw[Is.int_iff.mp i] at m;obtain⟨a,rfl⟩:=m;exact P.str_of_int b {.str (toString j),H,I.tok _,{_,rfl},q}
   ·cases e
 | _=>cases e
def wX{K:FG}(g:c.K=K):Ct c (λn H Q=>∃(A:Addr->Prop) (v:V) (d:D) (t:Str),n=[v]/\Is K A H d v/\FM [d]=some (.str t)/\Q (.str t) H) FM:=by
 subst g;intro l o H s d Q h z e q
 match l,z,e with
 | [a],z,e=>
   obtain⟨v,r,f,i,p⟩:=aa.cons.mp z;rw[aa.nil.mp p] at f;have fin:∀t:Str,d=.str t->FM [a]=some (.str t)->∃(A:Addr->Prop) (v:V) (d:D) (t:Str),o=[v]/\Is c.K A H d v/\FM [d]=some (.str t)/\Q (.str t) H:=λt m e=>by
    subst m;exact{_,v,a,t,f,i,e,q _ H Af.refl h (show AB c H H (.str _) (.str _) from Is.str_iff.mpr rfl)}
   have b:=e;cases a with
   | tup l=>
     have e:(if E6 l then some (D.str (aD (.tup l)).shown) else none)=some d:=e;split at e
     ·cases e;exact fin _ rfl b
     ·cases e
   | fl l=>
     have e:(if E6 l then some (D.str (aD (.fl l)).shown) else none)=some d:=e;split at e
     ·cases e;exact fin _ rfl b
     ·cases e
   | int j=>
     have e:(if j.natAbs.log2<1920 then some (D.str (toString j)) else none)=some d:=e;split at e
     ·cases e;exact fin _ rfl b
     ·cases e
   | _=>cases e
 | [],_,e=>cases e
 | _::_::_,_,e=>unfold FM at e;simp at e
end
section
variable{X:Cx}{S:Type}{W:Wd S}{c:Dx W}{g ga gb gc:Gr}{H1:Hp}{Y:St}{Z:Ae}{st1:S}{A:Addr->Prop}
end
section
variable{X:Cx}{S:Type}{W:Wd S}{c:Dx W}{i:Nat}
section
variable{Q:Fl->S->Prop}{E:AG->S->Prop}{Z:Ae}{st:S}
end
end
end L2
namespace PySem
end PySem
namespace L2
section
variable{x1:Nat}{S:Type}{X:Cx}{W:Wd S}{c:Dx W}{g ga:Gr}{H:Hp}{st:S}
def KF(t:TA):TE:=λY H Q=>t Y H λxs H1=>xs.length<=sizeLine/\∀p o,H1 p=none->Q (.ref p) (Ad H1 p (.frz o (.lst xs)))
def rg(h:PA X es t):PE X (.List es pos) (KF t):=by
 intro a s Y H Q I b;refine wpAny_List_spliced (ai (h pos a s Y H _ I b) λus a ⟨f,H1,I1,r,z,q⟩=>{by rw[<-r.length];exact z,?_});have d:H1 a.heap.objs.size=none:=I1.hok.fresh (Am _);have e:(a.heap.push { cls:=.type "list",data:=.seq us.toArray }).get? a.heap.objs.size=some { cls:=.type "list",data:=.seq us.toArray }:=Bi _ rfl;refine{.ref a.heap.objs.size,Ad H1 a.heap.objs.size (.frz { cls:=.type "list",data:=.seq us.toArray } (.lst f)),I1.laid (t':=a.toks) (λb u e=>AM _ e) (Am _) ?_,rfl,q _ _ d};exact{e,z,us,0,r,e}
def AB.fl{p:Addr}{o:Obj}{l:List D}{a:List V}{A:Addr->Prop}(e:W.ok st H)(h:H p=none)(d:∀b,A b->¬W.mv b)(m:D.immL l=true)(i:aa c.K A H l a):AB c H (Ad H p (.frz o (.lst a))) (.fl l) (.ref p):=
 Is.fl_iff.mpr {p,o,a,rfl,aq,aa.ofImm m (i.ext (Af.laid h) e d)}
def Gf(l:List D):Option D:=if D.immL l=true/\l.length<=sizeLine then some (.fl l) else none
open H in
def rh:Ct c (λf H1 Q=>f.length<=sizeLine/\∀p o,H1 p=none->Q (.ref p) (Ad H1 p (.frz o (.lst f)))) Gf:=by
 intro l a H st d Q b z e q;unfold Gf at e;split at e
 ·rename_i h
  cases e;exact{by rw[<-z.length];exact h.2,λp o a=>q _ _ (Af.laid a) (aJ b a) (AB.fl b a (λ_ n=>n) h.1 z)}
 ·cases e
def wY(h:DA X c es f):DE X c g (.List es pos) (fA S Gf f):=(rg h).imp λY H Q q=>eD (g:=g) rh q
end
end L2
namespace Ts
open PySem PyProof.Rows
section
variable{prog:Program}{w:World}{A:Around}{E:Value->Shared->Prop}{s:Shared}{L:KeyKind}{knd:SortKind}
def Dl(prog:Program)(w:World)(A:Around)(E:Value->Shared->Prop)(s:Shared)(L:KeyKind)(knd:SortKind):Prop:=
 ∀(st:SortSt) (x y:Keyed) (a b:L.α) (Q:Option Bool->SortSt->Prop),kindOf st=knd->L.keyOf x.1=some a->L.keyOf y.1=some b->Q (some (L.blt a b)) st->wpS 'r' A E s (lt' x y) Q st
instance ky(L:KeyKind)(x:Keyed):L.α:=(L.keyOf x.1).getD L.dflt
structure Bs(a₀:Array Keyed)(knd:SortKind)(P:Array (Nat×Nat×Nat))(st:SortSt):Prop where
 perm:(arrOf st).Perm a₀
 kind:kindOf st=knd
 fail:failedOf st=none
 pend:pendingOf st=P
variable{st:SortSt}
def Bs.size(B:Bs a₀ knd P st):(arrOf st).size=a₀.size:=B.perm.size_eq
def Bs.arr(B:Bs a₀ knd P st){a:Array Keyed}(h:a.Perm (arrOf st)):Bs a₀ knd P (setArr st a):={h.trans B.perm,B.kind,B.fail,B.pend}
def Bs.at(B:Bs a₀ knd P st)(d:KeysOf L a₀){i:Nat}(f:i<a₀.size):∃x a,(arrOf st)[i]?=some x/\L.keyOf x.1=some a/\KK L (arrOf st) i=a:=by
 have b:i<(arrOf st).size:=by rw[B.size];exact f
 have g:(arrOf st)[i]∈a₀.toList:=(Array.perm_iff_toList_perm.mp B.perm).mem_iff.mp (Array.getElem_mem_toList b);obtain⟨a,c⟩:=d _ g;have e:(arrOf st)[i]?=some (arrOf st)[i]:=Ha b;refine{_,a,e,c,?_};unfold KK;rw[e];show (L.keyOf (arrOf st)[i].1).getD L.dflt=a;rw[c];rfl
def dI(C:Dl prog w A E s L knd)(c:KeysOf L a₀)(B:Bs a₀ knd P st){i j:Nat}(g:i<a₀.size)(d:j<a₀.size){Q:Option Bool->SortSt->Prop}(h:Q (some (L.blt (KK L (arrOf st) i) (KK L (arrOf st) j))) st):wpS 'r' A E s (ltAt' i j) Q st:=by
 obtain⟨x,a,e,o,l⟩:=B.at c g;obtain⟨y,b,m,n,f⟩:=B.at c d;rw[ltAt'_eq];refine ag (wpS_get ?_);show wpS _ _ _ _ (elem' (arrOf st) i >>= λx=>elem' (arrOf st) j >>= λy=>lt' x y) Q st;rw[elem'_eq,elem'_eq,e,m];refine ag (ak (ag (ak (C st x y a b Q B.kind o n ?_))));rw[<-l,<-f];exact h
instance Up(L:KeyKind)(xs:Array Keyed)(lo hi:Nat):Prop:=∀i j,lo<=i->i<=j->j<hi->L.kle (KK L xs i) (KK L xs j)
instance Dn(L:KeyKind)(xs:Array Keyed)(lo hi:Nat):Prop:=∀i j,lo<=i->i<=j->j<hi->L.kle (KK L xs j) (KK L xs i)
def Up.one{c:Array Keyed}{a b:Nat}(h:b<=a+1):Up L c a b:=λi j e f d=>by
 have:i=j:=by omega
 subst this;exact KeyOrd.kle_refl _
def Up.snoc{b:Array Keyed}{a n:Nat}(h:Up L b a (a+n))(e:1<=n)(f:L.kle (KK L b (a+n-1)) (KK L b (a+n))):Up L b a (a+(n+1)):=λi j g1 g2 g3=>by
 by_cases d:j<a+n
 ·exact h i j g1 g2 d
 ·cases Fc (Fv g3) (ED d)
  rcases Nat.lt_or_eq_of_le g2 with c | c
  ·exact KeyOrd.kle_trans (h i (a+n-1) g1 (Nat.le_sub_one_of_lt c) (Nat.sub_lt (AW e (Fd n a)) Nat.one_pos)) f
  ·subst c;exact KeyOrd.kle_refl _
def Dn.snoc{b:Array Keyed}{a n:Nat}(h:Dn L b a (a+n))(e:1<=n)(f:L.kle (KK L b (a+n)) (KK L b (a+n-1))):Dn L b a (a+(n+1)):=λi j g1 g2 g3=>by
 by_cases d:j<a+n
 ·exact h i j g1 g2 d
 ·cases Fc (Fv g3) (ED d)
  rcases Nat.lt_or_eq_of_le g2 with c | c
  ·exact KeyOrd.kle_trans f (h i (a+n-1) g1 (Nat.le_sub_one_of_lt c) (Nat.sub_lt (AW e (Fd n a)) Nat.one_pos))
  ·subst c;exact KeyOrd.kle_refl _
def BF(xs ys:Array Keyed)(lo hi:Nat):Prop:=∀i,(i<lo\/hi<=i)->ys[i]?=xs[i]?
def gA{a:Array Keyed}{i j k:Nat}(b:j<=a.size):KK L (mirror a i j ((j-i) / 2)) k=if i<=k/\k<j then KK L a (i+j-1-k) else KK L a k:=KK_mirror b k
def kz(C:Dl prog w A E s L knd)(e:KeysOf L a₀)(B:Bs a₀ knd P st){d f a:Nat}(b:d+f<=a₀.size)(c:1<=a)(l:a<=f)(g:Up L (arrOf st) d (d+a)){Q:Option (Option Nat)×Nat->SortSt->Prop}(h:∀n,a<=n->n<=f->Up L (arrOf st) d (d+n)->(n=f\/L.blt (KK L (arrOf st) (d+n)) (KK L (arrOf st) (d+n-1))=true)->Q (none,n) st) :
 wpS 'r' A E s (forIn [a:f] ((none,a):Option (Option Nat)×Nat) λ_ r=>do
  let x <-ltAt' (d+r.2) (d+r.2-1)
  match x with
  | some b=>if b=true then pure (ForInStep.done (none,r.2)) else pure (ForInStep.yield (none,r.2+1))
  | _=>pure (ForInStep.done (some none,r.2))) Q st:=by
 refine aS (I:=λx c b=>b=st/\c=(none,x)/\Up L (arrOf st) d (d+x)) (λi c b m j hI130=>?_) (λc b hI129=>?_) ⟨rfl,rfl,g⟩
 ·obtain⟨c,j,g⟩:=hI130
  subst c j;refine ag (dI C e B 'o' 'o' ?_);show wpS _ _ _ _ (if L.blt (KK L (arrOf b) (d+i)) (KK L (arrOf b) (d+i-1))=true then _ else _) _ _;cases e:L.blt (KK L (arrOf b) (d+i)) (KK L (arrOf b) (d+i-1))
  ·rw[if_neg BA]
   exact ak {rfl,rfl,g.snoc 'o' e}
  ·rw[if_pos rfl]
   exact ak (h i m 'o' g (.inr e))
 ·obtain⟨c,j,g⟩:=hI129
  subst c j;have e:max a f=f:=by omega
  rw[e] at g ⊢;exact h f l (Am _) g (.inl rfl)
def BF.refl{a:Array Keyed}{b c:Nat}:BF a a b c:=λ_ _=>rfl
def BF.trans{g f e:Array Keyed}{c d:Nat}(a:BF g f c d)(b:BF f e c d):BF g e c d:=λi h=>(b i h).trans (a i h)
def BF.mir{a:Array Keyed}{b c p q:Nat}(d:q<=a.size)(e:b<=p)(f:q<=c):BF a (mirror a p q ((q-p) / 2)) b c:=λi h=>by
 rw[getElem?_mirror_all d,if_neg 'o']
def gB{p q k:Nat}(a:p<=k)(b:k<q):p<=p+q-1-k/\p+q-1-k<q:=by
 obtain⟨d,rfl⟩:=Nat.le.dest b;rw[show p+(k.succ+d)-1-k=p+d by omega];exact{Cq p d,Nat.add_lt_add_right (Nat.lt_succ_of_le a) d}
def gC{b:Array Keyed}{p q:Nat}{c:L.α}(d:q<=b.size)(h:∀i,p<=i->i<q->KK L b i=c)(k:Nat):KK L (mirror b p q ((q-p) / 2)) k=KK L b k:=by
 rw[gA d];by_cases a:p<=k/\k<q
 ·have z:=gB a.1 a.2
  rw[if_pos a,h k a.1 a.2,h _ z.1 z.2]
 ·rw[if_neg a]
def Dn.turn{b:Array Keyed}{a n:Nat}(e:a+n<=b.size)(h:Dn L b a (a+n)):Up L (mirror b a (a+n) ((a+n-a) / 2)) a (a+n):=λi j g1 g2 g3=>by
 have d:=Cj g2 g3;have c:=Az g1 g2;rw[gA e,gA e,if_pos ⟨g1,d⟩,if_pos ⟨c,g3⟩];exact h _ _ (gB c g3).1 (Nat.sub_le_sub_left g2 _) (gB g1 d).2
def Dn.congr{c a:Array Keyed}{b d:Nat}(h:Dn L c b d)(e:∀k,KK L a k=KK L c k):Dn L a b d:=λi j g1 g2 g3=>by rw[e i,e j];exact h i j g1 g2 g3
def kA(C:Dl prog w A E s L knd)(g:KeysOf L a₀)(B:Bs a₀ knd P st){a c n:Nat}(f:a+c<=a₀.size)(d:1<=n)(e:n<=c)(i:Dn L (arrOf st) a (a+n)){Q:Option Nat->SortSt->Prop}(h:∀m b,Bs a₀ knd P b->1<=m->m<=c->Up L (arrOf b) a (a+m)->BF (arrOf st) (arrOf b) a (a+c)->Q (some m) b) :
 wpS 'r' A E s (do
  reverseSlice' a (a+n)
  let r <-forIn [n:c] ((none,n):Option (Option Nat)×Nat) λ_ r=>do
   let x <-ltAt' (a+r.2) (a+r.2-1)
   match x with
   | some b=>if b=true then pure (ForInStep.done (none,r.2)) else pure (ForInStep.yield (none,r.2+1))
   | _=>pure (ForInStep.done (some none,r.2))
  match r.1 with
  | some r=>pure r
  | none=>pure (some r.2)) Q st:=by
 have b:a+n<=(arrOf st).size:=by rw[B.size];omega
 rw[reverseSlice'_eq];refine ag (bf (ag (kz C g (B.arr (mirror_perm _ _ _ _)) f d e (Dn.turn b i) λm g1 g2 g3 _=>?_)));exact ak (h m _ (B.arr (mirror_perm _ _ _ _)) 'o' g2 g3 (BF.mir b (Am _) 'o'))
def kB(C:Dl prog w A E s L knd)(u:KeysOf L a₀)(B:Bs a₀ knd P st){b d n:Nat}(z:b+d<=a₀.size)(g:1<=n)(f:n<=d)(l:Dn L (arrOf st) b (b+n)){Q:Option Nat->SortSt->Prop}(h:∀m a,Bs a₀ knd P a->1<=m->m<=d->Up L (arrOf a) b (b+m)->BF (arrOf st) (arrOf a) b (b+d)->Q (some m) a) :
 wpS 'r' A E s (do
  liftM (rule "list.sort.descending-run")
  let r <-forIn [n:d] ((none,n,0):Option (Option Nat)×Nat×Nat) λ_ r=>do
   let x <-ltAt' (b+r.2.1) (b+r.2.1-1)
   match x with
   | some c=>
     if c=true then
      if r.2.2>0 then do
       reverseSlice' (b+r.2.1-(r.2.2+1)) (b+r.2.1)
       pure (ForInStep.yield (none,r.2.1+1,0))
      else pure (ForInStep.yield (none,r.2.1+1,0))
     else do
      let x <-ltAt' (b+r.2.1-1) (b+r.2.1)
      match x with
      | some e=>if e=true then pure (ForInStep.done (none,r.2.1,r.2.2)) else pure (ForInStep.yield (none,r.2.1+1,r.2.2+1))
      | _=>pure (ForInStep.done (some none,r.2.1,r.2.2))
   | _=>pure (ForInStep.done (some none,r.2.1,r.2.2))
  match r.1 with
  | some r=>pure r
  | none=>
    if r.2.2>0 then do
     reverseSlice' (b+r.2.1-(r.2.2+1)) (b+r.2.1)
     reverseSlice' b (b+r.2.1)
     let r <-forIn [r.2.1:d] ((none,r.2.1):Option (Option Nat)×Nat) λ_ r=>do
      let x <-ltAt' (b+r.2) (b+r.2-1)
      match x with
      | some c=>if c=true then pure (ForInStep.done (none,r.2)) else pure (ForInStep.yield (none,r.2+1))
      | _=>pure (ForInStep.done (some none,r.2))
     match r.1 with
     | some r=>pure r
     | none=>pure (some r.2)
    else do
     reverseSlice' b (b+r.2.1)
     let r <-forIn [r.2.1:d] ((none,r.2.1):Option (Option Nat)×Nat) λ_ r=>do
      let x <-ltAt' (b+r.2) (b+r.2-1)
      match x with
      | some c=>if c=true then pure (ForInStep.done (none,r.2)) else pure (ForInStep.yield (none,r.2+1))
      | _=>pure (ForInStep.done (some none,r.2))
     match r.1 with
     | some r=>pure r
     | none=>pure (some r.2)) Q st:=by
 refine ag (wpS_lift (aW {rfl,?_}));refine ag (aN (aS (I:=λx c a=>∃q,c=(none,x,q)/\Bs a₀ knd P a/\x<=d/\Dn L (arrOf a) b (b+x)/\q+1<=x/\(∀i,b+x-(q+1)<=i->i<b+x->KK L (arrOf a) i=KK L (arrOf a) (b+x-1))/\BF (arrOf st) (arrOf a) b (b+d)) (Q:=λc a=>∃x q,c=(none,x,q)/\1<=x/\Bs a₀ knd P a/\x<=d/\Dn L (arrOf a) b (b+x)/\q+1<=x/\(∀i,b+x-(q+1)<=i->i<b+x->KK L (arrOf a) i=KK L (arrOf a) (b+x-1))/\BF (arrOf st) (arrOf a) b (b+d))
  (λx c a e d p=>?_) (λc a p=>?_) {0,rfl,B,f,l,g,λi g1 g2=>by rw[show i=b+n-1 by omega],BF.refl}) λc a p=>?_)
 ·obtain⟨q,e,f,d,c,v,n,l⟩:=p
  subst e;have r:b+x<=(arrOf a).size:=by rw[f.size];omega
  refine ag (dI C u f (i:=b+x) (j:=b+x-1) 'o' 'o' ?_);show wpS _ _ _ _ (if L.blt (KK L (arrOf a) (b+x)) (KK L (arrOf a) (b+x-1))=true then _ else _) _ _;cases B:L.blt (KK L (arrOf a) (b+x)) (KK L (arrOf a) (b+x-1))
  ·rw[if_neg BA]
   refine ag (dI C u f (i:=b+x-1) (j:=b+x) 'o' 'o' ?_);show wpS _ _ _ _ (if L.blt (KK L (arrOf a) (b+x-1)) (KK L (arrOf a) (b+x))=true then _ else _) _ _;cases g:L.blt (KK L (arrOf a) (b+x-1)) (KK L (arrOf a) (b+x))
   ·rw[if_neg BA]
    have o:KK L (arrOf a) (b+x)=KK L (arrOf a) (b+x-1):=L.total _ _ B g;refine ak {q+1,rfl,f,'o',c.snoc 'o' (by rw[o];exact KeyOrd.kle_refl _),'o',λi g1 g2=>?_,l};have y:b+(x+1)-1=b+x:=by omega
    rw[y,o];by_cases g:i=b+x
    ·rw[g,o]
    ·exact n i 'o' 'o'
   ·rw[if_pos rfl]
    exact ak {x,q,rfl,'o',f,d,c,v,n,l}
  ·rw[if_pos rfl]
   have y:L.kle (KK L (arrOf a) (b+x)) (KK L (arrOf a) (b+x-1)):=KeyOrd.kle_of_klt B;by_cases g:q>0
   ·show wpS _ _ _ _ (if q>0 then _ else _) _ _
    rw[if_pos g];show wpS _ _ _ _ (reverseSlice' (b+x-(q+1)) (b+x) >>= λ_=>pure (ForInStep.yield (none,x+1,0))) _ _;rw[reverseSlice'_eq];have o:∀k,KK L (mirror (arrOf a) (b+x-(q+1)) (b+x) ((b+x-(b+x-(q+1))) / 2)) k=KK L (arrOf a) k:=gC r n;refine ag (bf (ak {0,rfl,f.arr (mirror_perm _ _ _ _),'o',(c.congr o).snoc 'o' (by rw[o,o];exact y),'o',λi g1 g2=>?_,l.trans (BF.mir r 'o' 'o')}));rw[show i=b+(x+1)-1 by omega]
   ·show wpS _ _ _ _ (if q>0 then _ else _) _ _
    rw[if_neg g];refine ak {0,rfl,f,'o',c.snoc 'o' y,'o',λi g1 g2=>?_,l};rw[show i=b+(x+1)-1 by omega]
 ·obtain⟨q,e,f,d,c,v,n,l⟩:=p
  exact{_,q,e,'o',f,d,c,v,n,l}
 ·obtain⟨x,q,e,y,f,d,c,v,n,l⟩:=p
  subst e;have r:b+x<=(arrOf a).size:=by rw[f.size];omega
  by_cases g:q>0
  ·show wpS _ _ _ _ (if q>0 then _ else _) _ _
   rw[if_pos g];rw[reverseSlice'_eq (b+x-(q+1)) (b+x)];have o:∀k,KK L (mirror (arrOf a) (b+x-(q+1)) (b+x) ((b+x-(b+x-(q+1))) / 2)) k=KK L (arrOf a) k:=gC r n;refine ag (bf ?_);exact kA C u (f.arr (mirror_perm _ _ _ _)) z y d (c.congr o) λm a v e p n o2=>h m a v e p n (l.trans ((BF.mir r 'o' 'o').trans o2))
  ·show wpS _ _ _ _ (if q>0 then _ else _) _ _
   rw[if_neg g];exact kA C u f z y d c λm a v e p n o2=>h m a v e p n (l.trans o2)
open H in
def kC(C:Dl prog w A E s L knd)(e:KeysOf L a₀)(B:Bs a₀ knd P st){a c:Nat}(o:a+c<=a₀.size)(d:1<=c){Q:Option Nat->SortSt->Prop}(h:∀m b,Bs a₀ knd P b->1<=m->m<=c->Up L (arrOf b) a (a+m)->BF (arrOf st) (arrOf b) a (a+c)->Q (some m) b):wpS 'r' A E s (countRun' a c) Q st:=by
 rw[countRun'_eq];refine ag ?_;refine kz C e B o (Am 1) d (Up.one 'o') λn g1 g2 g3 g4=>?_
 dsimp only;by_cases b:n=c
 ·rw[if_pos (by rw[b];exact bO _)]
  exact ak (h n st B g1 g2 g3 BF.refl)
 rw[if_neg (by simpa using b)];have c:L.blt (KK L (arrOf st) (a+n)) (KK L (arrOf st) (a+n-1))=true:=g4.resolve_left b;by_cases u:n>1
 ·rw[if_pos u]
  refine ag (dI C e B 'o' 'o' ?_);show wpS _ _ _ _ (if L.blt (KK L (arrOf st) a) (KK L (arrOf st) (a+n-1))=true then _ else _) _ _;cases b:L.blt (KK L (arrOf st) a) (KK L (arrOf st) (a+n-1));case true=>
   rw[if_pos rfl];exact ak (h n st B g1 g2 g3 BF.refl)
  rw[if_neg BA];have l:a+n<=(arrOf st).size:=by rw[B.size];omega
  have same:∀i,a<=i->i<a+n->KK L (arrOf st) i=KK L (arrOf st) a:=λi d p=>by
   have f:=g3 a i (Am _) d p;have g:=KeyOrd.kle_trans (g3 i (a+n-1) d 'o' 'o') b;exact KeyOrd.kle_antisymm g f
  have b:=gC l same;rw[reverseSlice'_eq a (a+n)];refine ag (bf ?_);have f:Dn L (arrOf st) a (a+n):=λi j d p q=>by rw[same i d 'o',same j 'o' q];exact KeyOrd.kle_refl _
  have g:=kB (Q:=Q) C e (B.arr (mirror_perm _ _ _ _)) o (n:=n+1) 'o' 'o' ((f.congr b).snoc g1 (by rw[b,b];exact KeyOrd.kle_of_klt c)) λm b y v r x o2=>h m b y v r x ((BF.mir l (Am _) 'o').trans o2)
  refine Eq.mp ?_ g;congr 1;congr 1;funext _u;congr 1;funext i;obtain⟨l,x,v⟩:=i;cases l with
  | some r=>rfl
  | none=>
    dsimp only;split
    ·congr 1;funext _v;congr 1;funext _v;congr 1;funext j;obtain⟨b,m⟩:=j;cases b<;>rfl
    ·congr 1;funext _v;congr 1;funext j;obtain⟨b,m⟩:=j;cases b<;>rfl
 ·rw[if_neg u]
  have y:n=1:=by omega
  have f:Dn L (arrOf st) a (a+n):=λi j d p q=>by
   have:i=j:=by omega
   subst this;exact KeyOrd.kle_refl _
  have g:=kB (Q:=Q) C e B o (n:=n+1) 'o' 'o' (f.snoc g1 (KeyOrd.kle_of_klt c)) h;refine Eq.mp ?_ g;congr 1;congr 1;funext _u;congr 1;funext i;obtain⟨l,x,v⟩:=i;cases l with
  | some r=>rfl
  | none=>
    dsimp only;split
    ·congr 1;funext _v;congr 1;funext _v;congr 1;funext j;obtain⟨b,m⟩:=j;cases b<;>rfl
    ·congr 1;funext _v;congr 1;funext j;obtain⟨b,m⟩:=j;cases b<;>rfl
end
section
variable{knd:SortKind}{st:SortSt}
def gD{b:Array Keyed}{a d k:Nat}(e:a<b.size)(c:d<=a):KK L (bubble b a d) k=if k=a-d then KK L b a else if a-d<k/\k<=a then KK L b (k-1) else KK L b k:=KK_bubble e c k
open H in
theorem Up.of_next{a:Array Keyed}{b c:Nat}(h:∀i,b<=i->i+1<c->L.kle (KK L a i) (KK L a (i+1))):Up L a b c:=λi j f e=>by
 obtain⟨d,rfl⟩:=Nat.le.dest e;clear e;induction d with
 | zero=>exact λ_=>KeyOrd.kle_refl _
 | succ d ih=>exact λe=>KeyOrd.kle_trans (ih (Nat.lt_of_succ_lt e)) (h (i+d) (Az f (Cq i d)) e)
section
variable{xs:Array Keyed}{lo l d t:Nat}
def kD(b:lo+(l+d)<xs.size)(h:t<l):KK L (bubble xs (lo+(l+d)) d) (lo+t)=KK L xs (lo+t):=by
 have a:=EB h lo;rw[gD b (Az (Fd d l) (Fd _ lo)),<-Eb,Nat.add_sub_cancel,if_neg (Bk a),if_neg λz=>Nat.lt_asymm a z.1]
def kE(a:lo+(l+d)<xs.size):KK L (bubble xs (lo+(l+d)) d) (lo+l)=KK L xs (lo+(l+d)):=by
 rw[gD a (Az (Fd d l) (Fd _ lo)),if_pos (by rw[<-Eb,Nat.add_sub_cancel])]
def gE(c:lo+(l+d)<xs.size)(a:l<=t)(b:t<l+d):KK L (bubble xs (lo+(l+d)) d) (lo+(t+1))=KK L xs (lo+t):=by
 have a:=EB (Nat.lt_succ_of_le a) lo;rw[gD c (Az (Fd d l) (Fd _ lo)),<-Eb lo l,Nat.add_sub_cancel,if_neg (Nat.ne_of_gt a),if_pos {a,by rw[Eb];exact Di b lo}];rfl
open H in
def Up.ins{k:Nat}(a:lo+k<xs.size)(b:l<=k)(u:Up L xs lo (lo+k))(c:∀i,i<l->L.kle (KK L xs (lo+i)) (KK L xs (lo+k)))(e:∀i,l<=i->i<k->L.kle (KK L xs (lo+k)) (KK L xs (lo+i))):Up L (bubble xs (lo+k) (k-l)) lo (lo+(k+1)):=by
 obtain⟨d,rfl⟩:=Nat.le.dest b;rw[Hb];refine Up.of_next λi f b=>?_
 obtain⟨t,rfl⟩:=Nat.le.dest f;have b:t<l+d:=Nat.lt_of_add_lt_add_left (n:=lo) (Gw b);have i:=u (lo+t) (lo+(t+1)) f (Ff _);rcases Nat.lt_trichotomy t l with h | h | h
 ·rw[kD a h,Eb]
  rcases Nat.lt_or_eq_of_le (Nat.succ_le_of_lt h) with g | g
  ·rw[kD a g];exact i (EB (AW g (Cq l d)) lo)
  ·rw[show lo+(t+1)=lo+l by rw[<-g],kE a];exact c t h
 ·subst h
  rw[kE a,Eb,gE a (Am _) b];exact e t (Am _) b
 ·obtain⟨t,rfl⟩:∃u,t=u+1:={t-1,(Nat.succ_pred (Nat.ne_of_gt (Cj (AE l) h))).symm}
  have h:=Fv h;rw[gE a h (Nat.lt_of_succ_lt b),Eb,gE a (Nat.le_succ_of_le h) b];exact u (lo+t) (lo+(t+1)) (Cq _ _) (Ff _) (EB b lo)
end
def mid{l r:Nat}(h:l<r):l<=(l+r) / 2/\(l+r) / 2<r:=by omega
def kF(C:Dl prog w A E s L knd)(T:KeysOf L a₀)(B:Bs a₀ knd P st){d n J:Nat}(l:d+n<=a₀.size)(a:J<=n)(U:Up L (arrOf st) d (d+J)){Q:Bool->SortSt->Prop}(h:∀f,Bs a₀ knd P f->Up L (arrOf f) d (d+n)->BF (arrOf st) (arrOf f) d (d+n)->Q true f):wpS 'r' A E s (binarySort' d n J) Q st:=by
 rw[binarySort'_eq];refine ag (aN (aS (I:=λk c f=>c=(none,())/\Bs a₀ knd P f/\Up L (arrOf f) d (d+min k n)/\BF (arrOf st) (arrOf f) d (d+n)) (Q:=λc f=>c=(none,())/\Bs a₀ knd P f/\Up L (arrOf f) d (d+n)/\BF (arrOf st) (arrOf f) d (d+n)) (λk c f a u q=>?_) (λc f q=>?_) {rfl,B,?_,BF.refl}) λc f q=>?_)
 ·obtain⟨e,v,g,E⟩:=q
  subst e;rw[Fb (BC u)] at g;have O:∀{i},i<=k->d+i<a₀.size:=λh=>AW (EB (Cj h u) d) l
  have A:d+k<(arrOf f).size:=by rw[v.size];exact O (Am k)
  refine ag (aN (aS (I:=λx c a=>a=f/\∃l r,c=(none,l,r)/\l<=r/\r<=k/\r+x<=l+k/\(∀i,i<l->L.kle (KK L (arrOf f) (d+i)) (KK L (arrOf f) (d+k)))/\∀i,r<=i->i<k->L.kle (KK L (arrOf f) (d+k)) (KK L (arrOf f) (d+i))) (Q:=λc a=>a=f/\∃l r,c=(none,l,r)/\l<=k/\(∀i,i<l->L.kle (KK L (arrOf f) (d+i)) (KK L (arrOf f) (d+k)))/\∀i,l<=i->i<k->L.kle (KK L (arrOf f) (d+k)) (KK L (arrOf f) (d+i))) (λx c a o m q=>?_) (λc a q=>?_) {rfl,0,k,rfl,AE k,Am k,BY (Cm k 0),λi M=>(E9 i M).elim,λi g1 g2=>(Dj i (AW g2 g1)).elim}) λc a q=>?_)
  ·obtain⟨z,l,r,B,y,s,N,p,o⟩:=q
   subst z B;dsimp only;by_cases m:l>=r
   ·rw[if_pos m]
    have:=Fc y m;subst this;exact ak ⟨rfl,l,l,rfl,s,p,o⟩
   ·rw[if_neg m]
    obtain⟨R,G⟩:=mid (Nat.lt_of_not_le m);generalize (l+r) / 2=m at R G;have P:=AW G s;refine ag (dI C T v (i:=d+k) (j:=d+m) (O (Am k)) (O (BC P)) ?_);show wpS _ _ _ _ (if L.blt (KK L (arrOf a) (d+k)) (KK L (arrOf a) (d+m))=true then _ else _) _ _;cases C:L.blt (KK L (arrOf a) (d+k)) (KK L (arrOf a) (d+m))
    ·rw[if_neg BA]
     refine ak {rfl,m+1,r,rfl,G,s,'o',λi g1=>?_,o};exact KeyOrd.kle_trans (g (d+i) (d+m) (Cq d i) (Di (Fv g1) d) (EB P d)) C
    ·rw[if_pos rfl]
     refine ak {rfl,l,m,rfl,R,BC P,(by show m+x+1<=l+k;rw[Nat.add_right_comm];exact Az (Nat.add_le_add_right G x) N),p,λi g1 g2=>?_};exact KeyOrd.kle_trans (KeyOrd.kle_of_klt C) (g (d+m) (d+i) (Cq d m) (Di g1 d) (EB g2 d))
  ·obtain⟨z,l,r,B,y,s,N,p,o⟩:=q
   have:=Fc y (Nat.le_of_add_le_add_right (b:=k) (by simpa using N));subst this;exact⟨z,l,l,B,s,p,o⟩
  ·obtain⟨z,l,r,B,m,p,o⟩:=q
   subst z B;show wpS _ _ _ _ (moveDown' (d+k) (d+l) >>= λ_=>pure (ForInStep.yield (none,()))) _ _;rw[moveDown'_eq];have r:d+k-(d+l)<=d+k:=Nat.sub_le _ _;refine ag (bf (ak {rfl,v.arr (bubble_perm _ _ _),?_,E.trans λi M=>?_}))
   ·rw[Fb u,Nat.add_sub_add_left]
    exact Up.ins A m g p o
   ·show (bubble (arrOf a) (d+k) (d+k-(d+l)))[i]?=_
    rw[Nat.add_sub_add_left] at r ⊢;have z:d<=i->i<=d+k->False:=λa b=>M.elim (λc=>Dj i (AW c a)) λc=>Dj i (Cj b (AW (EB u d) c))
    have e:d+k-(k-l)=d+l:=by omega
    rw[getElem?_bubble A _ r,e,if_neg λc=>z (by rw[c];exact Cq d l) (by rw[c];exact Di m d),if_neg λc=>z (Az (Cq d l) (BC c.1)) c.2]
 ·obtain⟨e,v,g,E⟩:=q
  rw[Nat.min_eq_right (Nat.le_max_right _ n)] at g;exact⟨e,v,g,E⟩
 ·by_cases a:J=0
  ·exact Up.one 'o'
  ·exact λi j g1 g2 g3=>U i j g1 g2 'o'
 ·obtain⟨e,v,g,E⟩:=q
  subst e;exact ak (h f v g E)
end
local macro_rules
 | `(tactic| omega)=>`(tactic| omega +splitDisjunctions)
abbrev SM:=StateT SortSt Sem
def Eg:Bool->Keyed->Array Keyed->Nat->Nat->Nat->SM (Option Nat):=sortPriv% PySem.Builtin.gallop
instance far(left:Bool)(key:Keyed)(arr:Array Keyed)(base i:Nat):SM (Option Bool):=do
 let x <-elem' arr (base+i)
 if left then lt' x key else return (<-lt' key x).map (!·)
def Hx(left:Bool)(key:Keyed)(arr:Array Keyed)(base n p0 q0:Nat):SM (Option Nat):=do
 let mut p:=p0
 let mut q:=q0
 for _ in [0:n] do
  if p>=q then break
  let m:=p+(q-p) / 2
  let some y <-far left key arr base m | return none
  if y then p:=m+1 else q:=m
 return some q
def ri(left:Bool)(c:Keyed)(d:Array Keyed)(b n a:Nat):Eg left c d b n a=(do
 let mut u:=0
 let mut v:=1
 let some r <-far left c d b a | return none
 if r then
  for _ in [0:n] do
   if v>=n-a then break
   let some y <-far left c d b (a+v) | return none
   if !y then break
   u:=v
   v:=2*v+1
  Hx left c d b n (a+u+1) (a+min v (n-a))
 else
  for _ in [0:n] do
   if v>=a+1 then break
   let some y <-far left c d b (a-v) | return none
   if y then break
   u:=v
   v:=2*v+1
  Hx left c d b n (a+1-min v (a+1)) (a-u)):=rfl
section
variable{prog:Program}{w:World}{A:Around}{E:Value->Shared->Prop}{s:Shared}{L:KeyKind}{knd:SortKind}{st:SortSt}{left:Bool}{key:Keyed}{arr:Array Keyed}{base n:Nat}{f:Nat->Bool}
structure Cut(prog:Program)(w:World)(A:Around)(E:Value->Shared->Prop)(s:Shared)(knd:SortKind)(left:Bool)(key:Keyed)(arr:Array Keyed)(base n:Nat)(f:Nat->Bool):Prop where
 far:∀(i:Nat) (st:SortSt) (Q:Option Bool->SortSt->Prop),i<n->kindOf st=knd->Q (some (f i)) st->wpS 'r' A E s (far left key arr base i) Q st
 mono:∀i j,i<=j->j<n->f j=true->f i=true
def rj{p q:Nat}(h:p<q):p<=p+(q-p) / 2/\p+(q-p) / 2<q:=by omega
def rl{u v h n:Nat}(b:h+u<n)(c:u<v):h+u+1<=h+min v (n-h)/\h+min v (n-h)<=n:=
 have a:=Cj (Cq h u) b
 {Di (Nat.le_min.mpr {c,Nat.le_sub_of_add_le (by rw[Nat.succ_add,Cm];exact b)}) h,Az (Di (Nat.min_le_right _ _) h) (BY (Fq (BC a)))}
def rm{u v h:Nat}(a:u<=h)(b:u<v):h+1-min v (h+1)<=h-u:=by
 have:=Nat.sub_le_sub_left (Nat.le_min.mpr {b,FV a}) (h+1);rwa [Nat.add_sub_add_right] at this
def kG(F:Cut prog w A E s knd left key arr base n f)(r:kindOf st=knd){p q:Nat}(d:p<=q)(l:q<=n)(j:∀i,i<p->f i=true)(e:∀i,q<=i->i<n->f i=false){Q:Option Nat->SortSt->Prop}(h:∀k,k<=n->(∀i,i<k->f i=true)->(∀i,k<=i->i<n->f i=false)->Q (some k) st):wpS 'r' A E s (Hx left key arr base n p q) Q st:=by
 unfold Hx;refine ag (aN (aS (I:=λx c a=>a=st/\∃p q,c=(none,p,q)/\p<=q/\q<=n/\q+x<=p+n/\(∀i,i<p->f i=true)/\∀i,q<=i->i<n->f i=false) (Q:=λc a=>a=st/\∃p,c=(none,p,p)/\p<=n/\(∀i,i<p->f i=true)/\∀i,p<=i->i<n->f i=false) (λx c a o m g=>?_) (λc a g=>?_) {rfl,p,q,rfl,d,l,Az l (Fd n p),j,e}) λc a g=>?_)
 ·obtain⟨d,p,q,e,g1,g2,g3,g4,c⟩:=g
  subst d e;dsimp only;by_cases a:p>=q
  ·rw[if_pos a]
   cases Fc g1 a;exact ak ⟨rfl,p,rfl,g2,g4,c⟩
  ·rw[if_neg a]
   obtain⟨l,j⟩:=rj (Nat.lt_of_not_le a);generalize p+(q-p) / 2=m at l j;have o:=AW j g2;refine ag (F.far _ _ _ o r ?_);show wpS _ _ _ _ (if f m=true then _ else _) _ _;cases a:f m
   ·rw[if_neg BA]
    refine ak {rfl,p,m,rfl,l,BC o,Az (BY (Nat.add_right_comm m x 1)) (Az (Nat.add_le_add_right j x) g3),g4,λi r u=>?_};cases v:f i
    ·rfl
    ·rw[F.mono _ i r u v] at a;cases a
   ·rw[if_pos rfl]
    refine ak {rfl,m+1,q,rfl,j,g2,Az (FV g3) (Az (FV (Nat.add_le_add_right l n)) (BY (Nat.add_right_comm m n 1))),λi r=>?_,c};exact F.mono i _ (Fv r) o a
 ·obtain⟨d,p,q,e,g1,g2,g3,g4,c⟩:=g
  cases Fc g1 (Nat.le_of_add_le_add_right (b:=n) (by simpa using g3));exact⟨d,p,e,g2,g4,c⟩
 ·obtain⟨d,p,e,g2,g4,c⟩:=g
  subst d e;exact ak (h p g2 g4 c)
def cK(F:Cut prog w A E s knd left key arr base n f)(r:kindOf st=knd){a:Nat}(p:a<n){Q:Option Nat->SortSt->Prop}(h:∀k,k<=n->(∀i,i<k->f i=true)->(∀i,k<=i->i<n->f i=false)->Q (some k) st):wpS 'r' A E s (Eg left key arr base n a) Q st:=by
 rw[ri];have G:∀i,i<n->f i=false->∀j,i<=j->j<n->f j=false:=λi l m j c d=>by
  cases b:f j
  ·rfl
  ·rw[F.mono i j c d b] at m;cases m
 have y:∀{x v:Nat},x<v->v<2*v+1/\x+1<2*v+1:=λh=>{Nat.lt_succ_of_le (Nat.le_mul_of_pos_left _ (Nat.succ_pos 1)),Nat.succ_lt_succ (AW h (Nat.le_mul_of_pos_left _ (Nat.succ_pos 1)))}
 refine ag (F.far a _ _ p r ?_);dsimp only;cases J:f a
 ·rw[if_neg BA]
  refine ag (aN (aS (I:=λx c b=>b=st/\∃u v,c=(none,u,v)/\u<=a/\f (a-u)=false/\u<v/\x<v) (Q:=λc b=>b=st/\∃u v,c=(none,u,v)/\u<=a/\f (a-u)=false/\u<v/\(v>=a+1\/f (a-v)=true)) (λx c b B C g=>?_) (λc b g=>?_) {rfl,0,1,rfl,AE _,J,Nat.succ_pos 0,Nat.succ_pos 0}) λc b g=>?_)
  ·obtain⟨d,u,v,e,g1,g2,g3,g4⟩:=g
   subst d e;dsimp only;by_cases j:v>=a+1
   ·rw[if_pos j]
    exact ak {rfl,u,v,rfl,g1,g2,g3,.inl j}
   ·rw[if_neg j]
    refine ag (F.far _ _ _ (Cj (Nat.sub_le _ _) p) r ?_);show wpS _ _ _ _ (if f (a-v)=true then _ else _) _ _;cases m:f (a-v)
    ·rw[if_neg BA]
     exact ak {rfl,v,2*v+1,rfl,Fv (Nat.lt_of_not_le j),m,y g4}
    ·rw[if_pos rfl]
     exact ak {rfl,u,v,rfl,g1,g2,g3,.inr m}
  ·obtain⟨d,u,v,e,g1,g2,g3,g4⟩:=g
   exact{d,u,v,e,g1,g2,g3,.inl (Az p (BC (Cj (Nat.le_max_right 0 n) g4)))}
  ·obtain⟨d,u,v,e,g1,g2,g3,g4⟩:=g
   subst d e;have z:=Cj (Nat.sub_le a u) p;refine kG F r (rm g1 g3) (BC z) (λi l=>?_) (λi o q=>G _ z g2 i o q) h;rcases g4 with g4 | g4
   ·rw[Nat.min_eq_right g4,Nat.sub_self] at l;exact(E9 i l).elim
   ·by_cases z:v<=a+1
    ·rw[Fb z] at l
     exact F.mono i (a-v) (Nat.le_sub_of_add_le (Fv (Gz l))) (Cj (Nat.sub_le _ _) p) g4
    ·rw[Nat.min_eq_right (Nat.le_of_not_le z),Nat.sub_self] at l;exact(E9 i l).elim
 ·rw[if_pos rfl]
  refine ag (aN (aS (I:=λx c b=>b=st/\∃u v,c=(none,u,v)/\a+u<n/\f (a+u)=true/\u<v/\x<v) (Q:=λc b=>b=st/\∃u v,c=(none,u,v)/\a+u<n/\f (a+u)=true/\u<v/\(v>=n-a\/a+v<n/\f (a+v)=false)) (λx c b B C g=>?_) (λc b g=>?_) {rfl,0,1,rfl,p,J,Nat.succ_pos 0,Nat.succ_pos 0}) λc b g=>?_)
  ·obtain⟨d,u,v,e,g1,g2,g3,g4⟩:=g
   subst d e;dsimp only;by_cases j:v>=n-a
   ·rw[if_pos j]
    exact ak {rfl,u,v,rfl,g1,g2,g3,.inl j}
   ·rw[if_neg j]
    have b:a+v<n:=by rw[Cm];exact Gz (Nat.lt_of_not_le j)
    refine ag (F.far _ _ _ b r ?_);show wpS _ _ _ _ (if (!f (a+v))=true then _ else _) _ _;cases m:f (a+v)
    ·rw[if_pos (show (!false)=true from rfl)]
     exact ak {rfl,u,v,rfl,g1,g2,g3,.inr ⟨b,m⟩}
    ·rw[if_neg 'z']
     exact ak {rfl,v,2*v+1,rfl,b,m,y g4}
  ·obtain⟨d,u,v,e,g1,g2,g3,g4⟩:=g
   exact{d,u,v,e,g1,g2,g3,.inl (Az (Nat.sub_le n a) (BC (Cj (Nat.le_max_right 0 n) g4)))}
  ·obtain⟨d,u,v,e,g1,g2,g3,g4⟩:=g
   subst d e;obtain⟨o,q⟩:=rl g1 g3;refine kG F r o q (λi l=>F.mono i (a+u) (Fv l) g1 g2) (λi o q=>?_) h;rcases g4 with g4 | ⟨g4,b⟩
   ·rw[Nat.min_eq_right g4,Fq (BC p)] at o;exact(Dj i (AW q o)).elim
   ·rw[Fb (BC (Nat.lt_sub_of_add_lt (Cm v a▸g4)))] at o;exact G _ g4 b i o q
end
end Ts
namespace Ts
open PySem PyProof.Rows
instance mlo:Array Keyed->Array Keyed->SM (Array Keyed):=sortPriv% PySem.Builtin.mergeLo
def ER(g:Nat):SM Unit:=(sortPriv% PySem.Builtin.setMinGallop) g
abbrev Cf(a b out:Array Keyed)(ia ib:Nat):Array Keyed:=out++a.extract ia a.size++b.extract ib b.size
abbrev Ep(a b out:Array Keyed)(ia ib:Nat):Array Keyed:=out++b.extract ib b.size++a.extract ia a.size
def rn(a b:Array Keyed):mlo a b=(do
 rule "list.sort.merge-lo"
 let mut out:Array Keyed:=#[<-elem' b 0]
 let mut ia:=0
 let mut ib:=1
 if ib == b.size then return Cf a b out ia ib
 if ia+1 == a.size then return Ep a b out ia ib
 let mut mg:=gallopOf (<-get)
 for _ in [0:a.size+b.size] do
  let mut ca:=0
  let mut cb:=0
  for _ in [0:a.size+b.size] do
   let some y <-lt' (<-elem' b ib) (<-elem' a ia) | return Cf a b out ia ib
   if y then
    out:=out.push (<-elem' b ib)
    ib:=ib+1
    cb:=cb+1
    ca:=0
    if ib == b.size then return Cf a b out ia ib
    if cb>=mg then break
   else
    out:=out.push (<-elem' a ia)
    ia:=ia+1
    ca:=ca+1
    cb:=0
    if ia+1 == a.size then return Ep a b out ia ib
    if ca>=mg then break
  rule "list.sort.gallop"
  mg:=mg+1
  for _ in [0:a.size+b.size] do
   if mg>1 then mg:=mg-1
   ER mg
   let some k <-Eg false (<-elem' b ib) a ia (a.size-ia) 0 | return Cf a b out ia ib
   ca:=k
   if k>0 then
    out:=out++a.extract ia (ia+k)
    ia:=ia+k
    if ia+1 == a.size then return Ep a b out ia ib
    if ia == a.size then return Cf a b out ia ib
   out:=out.push (<-elem' b ib)
   ib:=ib+1
   if ib == b.size then return Cf a b out ia ib
   let some k <-Eg true (<-elem' a ia) b ib (b.size-ib) 0 | return Cf a b out ia ib
   cb:=k
   if k>0 then
    out:=out++b.extract ib (ib+k)
    ib:=ib+k
    if ib == b.size then return Cf a b out ia ib
   out:=out.push (<-elem' a ia)
   ia:=ia+1
   if ia+1 == a.size then return Ep a b out ia ib
   if ca<7&&cb<7 then break
  mg:=mg+1
  ER mg
 unsupported "internal:list.sort.merge-bound"):=rfl
section
variable{L:KeyKind}{a b:Array Keyed}{out:List Keyed}{ia ib:Nat}
abbrev le(L:KeyKind)(x y:Keyed):Prop:=L.kle (ky L x) (ky L y)
def aC{c:Array Keyed}{i:Nat}(h:i<c.size):KK L c i=ky L c[i]:=by
 unfold KK ky;rw[Ha h]
structure Mg(L:KeyKind)(a b:Array Keyed)(out:List Keyed)(ia ib:Nat):Prop where
 perm:(out++(a.toList.drop ia++b.toList.drop ib)).Perm (a.toList++b.toList)
 up:out.Pairwise (le L)
 la:∀x∈out,∀i,ia<=i->i<a.size->L.kle (ky L x) (KK L a i)
 lb:∀x∈out,∀i,ib<=i->i<b.size->L.kle (ky L x) (KK L b i)
def eX{c:Array Keyed}{i:Nat}(h:i<c.size):c.toList.drop i=c[i]::c.toList.drop (i+1):=by
 rw[List.drop_eq_getElem_cons (by simpa using h)];simp
def gF{x:Keyed}(c:out.Pairwise (le L))(h:∀z∈out,le L z x):(out++[x]).Pairwise (le L):=
 Ez.mpr {c,Hc _ _,λz d y c=>by rw[Bz.mp c];exact h z d}
def Mg.pushA(m:Mg L a b out ia ib)(g:Up L a 0 a.size)(d:ia<a.size)(h:∀j,ib<=j->j<b.size->L.kle (KK L a ia) (KK L b j)):Mg L a b (out++[a[ia]]) (ia+1) ib:=by
 refine{?_,gF m.up λz j=>?_,λx c i f e=>?_,λx c i f e=>?_}
 ·have:=m.perm
  rw[eX d] at this;simpa [BB] using this
 ·have:=m.la z j ia (Am _) d
  rwa [aC d] at this
 ·rcases BP.mp c with c | c
  ·exact m.la x c i 'o' e
  ·rw[Bz.mp c,<-aC d]
   exact g ia i (AE _) 'o' e
 ·rcases BP.mp c with c | c
  ·exact m.lb x c i f e
  ·rw[Bz.mp c,<-aC d]
   exact h i f e
def Mg.pushB(m:Mg L a b out ia ib)(g:Up L b 0 b.size)(d:ib<b.size)(h:∀j,ia<=j->j<a.size->L.kle (KK L b ib) (KK L a j)):Mg L a b (out++[b[ib]]) ia (ib+1):=by
 refine{?_,gF m.up λz j=>?_,λx c i f e=>?_,λx c i f e=>?_}
 ·have:=m.perm
  rw[eX d] at this;refine List.Perm.trans ?_ this;rw[BB];exact List.Perm.append_left _ (show (b[ib]::(a.toList.drop ia++b.toList.drop (ib+1))).Perm _ from List.perm_middle.symm)
 ·have:=m.lb z j ib (Am _) d
  rwa [aC d] at this
 ·rcases BP.mp c with c | c
  ·exact m.la x c i f e
  ·rw[Bz.mp c,<-aC d]
   exact h i f e
 ·rcases BP.mp c with c | c
  ·exact m.lb x c i 'o' e
  ·rw[Bz.mp c,<-aC d]
   exact g ib i (AE _) 'o' e
def kH{c:Array Keyed}{i k:Nat}(h:i+k<c.size):(c.toList.drop i).take (k+1)=(c.toList.drop i).take k++[c[i+k]]:=by
 rw[Cy,List.getElem?_drop];simp[Ha h]
theorem Mg.takeA(m:Mg L a b out ia ib)(c:Up L a 0 a.size):∀k,ia+k<=a.size->(∀i,i<k->∀j,ib<=j->j<b.size->L.kle (KK L a (ia+i)) (KK L b j))->Mg L a b (out++(a.toList.drop ia).take k) (ia+k) ib
 | 0,_,_=>by simpa using m
 | k+1,d,h=>by
   have ih:=Mg.takeA m c k 'o' λi d=>h i 'o'
   have:=ih.pushA c 'o' (h k 'o');rw[kH 'o',<-BB];exact this
theorem Mg.takeB(m:Mg L a b out ia ib)(c:Up L b 0 b.size):∀k,ib+k<=b.size->(∀i,i<k->∀j,ia<=j->j<a.size->L.kle (KK L b (ib+i)) (KK L a j))->Mg L a b (out++(b.toList.drop ib).take k) ia (ib+k)
 | 0,_,_=>by simpa using m
 | k+1,d,h=>by
   have ih:=Mg.takeB m c k 'o' λi d=>h i 'o'
   have:=ih.pushB c 'o' (h k 'o');rw[kH 'o',<-BB];exact this
def Er(L:KeyKind)(a b:Array Keyed)(r:List Keyed):Prop:=r.Perm (a.toList++b.toList)/\r.Pairwise (le L)
def eY{c:Array Keyed}{i:Nat}(u:Up L c 0 c.size):(c.toList.drop i).Pairwise (le L):=by
 rw[Gv];intro p q d f e;rw[List.length_drop,EV] at d f;have:=u (i+p) (i+q) (AE _) 'o' 'o';rw[aC 'o',aC 'o'] at this;simpa [List.getElem_drop] using this
def cL{c:Array Keyed}{i:Nat}{x:Keyed}(h:x∈c.toList.drop i):∃j,i<=j/\j<c.size/\ky L x=KK L c j:=by
 obtain⟨j,d,e⟩:=List.getElem_of_mem h;rw[List.length_drop,EV] at d;refine{i+j,'o','o',?_};rw[aC 'o',<-e];simp[List.getElem_drop]
def Mg.doneB(m:Mg L a b out ia ib)(c:Up L a 0 a.size)(h:b.size<=ib):Er L a b (out++a.toList.drop ia++b.toList.drop ib):=by
 have d:b.toList.drop ib=[]:=List.drop_eq_nil_of_le (by simpa using h);refine{by rw[BB];exact m.perm,?_};rw[d,Ck];refine Ez.mpr {m.up,eY c,λx f y d=>?_};obtain⟨j,c,g,e⟩:=cL (L:=L) d;show L.kle (ky L x) (ky L y);rw[e];exact m.la x f j c g
def Mg.doneA(m:Mg L a b out ia ib)(e:Up L b 0 b.size)(h:a.size<=ia):Er L a b (out++a.toList.drop ia++b.toList.drop ib):=by
 have c:a.toList.drop ia=[]:=List.drop_eq_nil_of_le (by simpa using h);refine{by rw[BB];exact m.perm,?_};rw[c,Ck];refine Ez.mpr {m.up,eY e,λx d y c=>?_};obtain⟨j,f,g,e⟩:=cL (L:=L) c;show L.kle (ky L x) (ky L y);rw[e];exact m.lb x d j f g
def Mg.last(m:Mg L a b out ia ib)(d:Up L b 0 b.size)(h:ia+1=a.size)(g:∀j,j<b.size->L.kle (KK L b j) (KK L a ia)):Er L a b (out++b.toList.drop ib++a.toList.drop ia):=by
 have c:a.toList.drop ia=[a[ia]]:=by rw[eX 'o',List.drop_eq_nil_of_le (by simp;omega)]
 refine{?_,?_}
 ·refine List.Perm.trans ?_ m.perm
  rw[BB];exact List.Perm.append_left _ List.perm_append_comm
 ·rw[c]
  refine gF (Ez.mpr {m.up,eY d,λx i y h=>?_}) λz c=>?_
  ·obtain⟨j,f,d,e⟩:=cL (L:=L) h
   show L.kle (ky L x) (ky L y);rw[e];exact m.lb x i j f d
  ·show L.kle (ky L z) (ky L a[ia])
   rw[<-aC 'o'];rcases BP.mp c with c | c
   ·exact m.la z c ia (Am _) 'o'
   ·obtain⟨j,f,d,e⟩:=cL (L:=L) c
    rw[e];exact g j d
end
section
variable{prog:Program}{w:World}{A:Around}{E:Value->Shared->Prop}{s:Shared}{L:KeyKind}{knd:SortKind}{st:SortSt}{a b:Array Keyed}
structure By(st st':SortSt):Prop where
 arr:arrOf st'=arrOf st
 pend:pendingOf st'=pendingOf st
 fail:failedOf st'=failedOf st
 kind:kindOf st'=kindOf st
def By.refl:By st st:=⟨rfl,rfl,rfl,rfl⟩
def ro(g:Nat):ER g=modify λs=>SortSt.mk' (kindOf s) (arrOf s) (pendingOf s) g (failedOf s):=rfl
def eZ{d:SortSt}{g:Nat}{Q:Unit->SortSt->Prop}(l:By d st)(h:∀c,By d c->Q () c):wpS 'r' A E s (ER g) Q st:=by
 rw[ro];exact bf (h _ ⟨l.arr,l.pend,l.fail,l.kind⟩)
def aF{c:Array Keyed}{i:Nat}(h:i<c.size){Q:Keyed->SortSt->Prop}(d:Q c[i] st):wpS 'r' A E s (elem' c i) Q st:=by
 rw[elem'_eq,Ha h];exact ak d
def cM(C:Dl prog w A E s L knd)(l:kindOf st=knd)(e:KeysOf L a)(g:KeysOf L b){i j:Nat}(c:i<a.size)(d:j<b.size){Q:Option Bool->SortSt->Prop}(h:Q (some (L.blt (KK L a i) (KK L b j))) st) :
 wpS 'r' A E s (lt' a[i] b[j]) Q st:=by
 obtain⟨x,f⟩:=e a[i] (Array.getElem_mem_toList c);obtain⟨y,e⟩:=g b[j] (Array.getElem_mem_toList d);refine C st _ _ x y Q l f e ?_;rw[aC c,aC d] at h;unfold ky at h;rw[f,e] at h;exact h
def kI(C:Dl prog w A E s L knd)(l:KeysOf L a)(f:KeysOf L b)(g:Up L a 0 a.size){c n j:Nat}(e:c+n<=a.size)(d:j<b.size):Cut prog w A E s knd false b[j] a c n (λi=>!L.blt (KK L b j) (KK L a (c+i))) where
 far:=λi st Q m e h=>by
  unfold far;refine ag (aF 'o' ?_);show wpS _ _ _ _ (lt' b[j] a[c+i] >>= λx=>pure (x.map (!·))) Q st;exact ag (cM C e f l d 'o' (ak h))
 mono:=λi k d e h=>by
  have h:L.blt (KK L b j) (KK L a (c+k))=false:=by simpa using h
  have:=KeyOrd.kle_trans (g (c+i) (c+k) (AE _) 'o' 'o') h;have:L.blt (KK L b j) (KK L a (c+i))=false:=this;simp[this]
def kJ(C:Dl prog w A E s L knd)(l:KeysOf L a)(g:KeysOf L b)(j:Up L b 0 b.size){c n i:Nat}(d:c+n<=b.size)(f:i<a.size):Cut prog w A E s knd true a[i] b c n (λk=>L.blt (KK L b (c+k)) (KK L a i)) where
 far:=λk st Q e d h=>by
  unfold far;refine ag (aF 'o' ?_);show wpS _ _ _ _ (lt' b[c+k] a[i]) Q st;exact cM C d g l 'o' f h
 mono:=λp q d e h=>KeyOrd.klt_of_kle_of_klt (j (c+p) (c+q) (AE _) 'o' 'o') h
def bj{c:Array Keyed}{i j:Nat}(h:j<=c.size):(c.extract i j).toList=(c.toList.drop i).take (j-i):=by
 simp[Array.toList_extract,List.extract_eq_drop_take]
structure CM(L:KeyKind)(a b:Array Keyed)(st:SortSt)(out:Array Keyed)(ia ib:Nat)(st':SortSt)(lo:Nat):Prop where
 m:Mg L a b out.toList ia ib
 ha:ia+1<a.size
 hb:ib<b.size
 like:By st st'
 far:lo<=ia+ib
def CM.le{st:SortSt}{c:Array Keyed}{g i f e:Nat}{d:SortSt}(M:CM L a b st c g i d f)(h:e<=f):CM L a b st c g i d e:={M.m,M.ha,M.hb,M.like,Az h M.far}
structure Two(prog:Program)(w:World)(A:Around)(E:Value->Shared->Prop)(s:Shared)(L:KeyKind)(knd:SortKind)(a b:Array Keyed)(st:SortSt):Prop where
 C:Dl prog w A E s L knd
 ka:KeysOf L a
 kb:KeysOf L b
 ua:Up L a 0 a.size
 ub:Up L b 0 b.size
 hl:∀j,j<b.size->L.kle (KK L b j) (KK L a (a.size-1))
 hk:kindOf st=knd
abbrev Dv(L:KeyKind)(a b:Array Keyed)(st:SortSt)(r:Array Keyed)(st':SortSt):Prop:=By st st'/\Er L a b r.toList
def kK(c:Array Keyed)(d e:Nat):(Cf a b c d e).toList=c.toList++a.toList.drop d++b.toList.drop e:=by
 unfold Cf;rw[EC,EC,bj (Am _),bj (Am _),FT 'd',FT 'd']
def rp(c:Array Keyed)(d e:Nat):(Ep a b c d e).toList=c.toList++b.toList.drop e++a.toList.drop d:=by
 unfold Ep;rw[EC,EC,bj (Am _),bj (Am _),FT 'd',FT 'd']
section
variable{out:Array Keyed}{ia ib lo:Nat}{st':SortSt}(T:Two prog w A E s L knd a b st)
include T
def Two.dB(m:Mg L a b out.toList ia ib)(h:b.size<=ib)(l:By st st'):Dv L a b st (Cf a b out ia ib) st':={l,by rw[kK];exact m.doneB T.ua h}
def Two.dA(m:Mg L a b out.toList ia ib)(h:a.size<=ia)(l:By st st'):Dv L a b st (Cf a b out ia ib) st':={l,by rw[kK];exact m.doneA T.ub h}
def Two.dL(m:Mg L a b out.toList ia ib)(h:ia+1=a.size)(l:By st st'):Dv L a b st (Ep a b out ia ib) st':={l,by rw[rp];exact m.last T.ub h (by rw[show ia=a.size-1 by omega];exact T.hl)}
def Two.kind(l:By st st'):kindOf st'=knd:=l.kind.trans T.hk
end
abbrev S6:=Option (Array Keyed)×Array Keyed×Nat×Nat×Nat×Nat
abbrev S7:=Option (Array Keyed)×Array Keyed×Nat×Nat×Nat×Nat×Nat
def Hy(a b:Array Keyed)(mg:Nat)(c:S6):SM S6:=forIn [0:a.size+b.size] c λ_ r=>do
 let y <-elem' b r.2.2.2.1
 let x <-elem' a r.2.2.1
 let z <-lt' y x
 match z with
 | some t=>
   if t=true then do
    let y <-elem' b r.2.2.2.1
    if (r.2.2.2.1+1 == b.size)=true then pure (ForInStep.done (some (Cf a b (r.2.1.push y) r.2.2.1 (r.2.2.2.1+1)),r.2.1.push y,r.2.2.1,r.2.2.2.1+1,0,r.2.2.2.2.2+1))
    else if r.2.2.2.2.2+1>=mg then pure (ForInStep.done (none,r.2.1.push y,r.2.2.1,r.2.2.2.1+1,0,r.2.2.2.2.2+1)) else pure (ForInStep.yield (none,r.2.1.push y,r.2.2.1,r.2.2.2.1+1,0,r.2.2.2.2.2+1))
   else do
    let x <-elem' a r.2.2.1
    if (r.2.2.1+1+1 == a.size)=true then pure (ForInStep.done (some (Ep a b (r.2.1.push x) (r.2.2.1+1) r.2.2.2.1),r.2.1.push x,r.2.2.1+1,r.2.2.2.1,r.2.2.2.2.1+1,0))
    else if r.2.2.2.2.1+1>=mg then pure (ForInStep.done (none,r.2.1.push x,r.2.2.1+1,r.2.2.2.1,r.2.2.2.2.1+1,0)) else pure (ForInStep.yield (none,r.2.1.push x,r.2.2.1+1,r.2.2.2.1,r.2.2.2.2.1+1,0))
 | _=>pure (ForInStep.done (some (Cf a b r.2.1 r.2.2.1 r.2.2.2.1),r.2.1,r.2.2.1,r.2.2.2.1,r.2.2.2.2.1,r.2.2.2.2.2))
def rq(T:Two prog w A E s L knd a b st){d:Array Keyed}{f g p n l i:Nat}{c:SortSt}(M:CM L a b st d f g c p){Q:S6->SortSt->Prop}(x:∀r z h,Dv L a b st r h->Q (some r,z) h)(u:∀d f g l i h,CM L a b st d f g h (p+1)->Q (none,d,f,g,l,i) h) :
 wpS 'r' A E s (Hy a b n (none,d,f,g,l,i)) Q c:=by
 unfold Hy;refine aS (I:=λy c h=>∃d f g l i,c=(none,d,f,g,l,i)/\CM L a b st d f g h (p+y)) (λy c h e j r=>?_) (λc h r=>?_) ⟨d,f,g,l,i,rfl,M⟩
 ·obtain⟨d,f,g,l,i,e,M⟩:=r
  subst e;have B:=M.ha;have q:=M.hb;have c:=M.far;refine ag (aF q (ag (aF (show f<a.size by omega) (ag (cM T.C (T.kind M.like) T.kb T.ka q 'o' ?_)))));show wpS _ _ _ _ (if L.blt (KK L b g) (KK L a f)=true then _ else _) _ _;cases v:L.blt (KK L b g) (KK L a f)
  ·rw[if_neg BA]
   refine ag (aF (show f<a.size by omega) ?_);have m:Mg L a b (d.push a[f]).toList (f+1) g:=by
    rw[Array.toList_push];exact M.m.pushA T.ua 'o' λj g1 g2=>KeyOrd.kle_trans v (T.ub g j (AE _) g1 g2)
   show wpS _ _ _ _ (if (f+1+1 == a.size)=true then _ else _) _ _;by_cases c:f+1+1=a.size
   ·rw[if_pos (beq_iff_eq.mpr c)]
    exact ak (x _ _ _ (T.dL m c M.like))
   ·rw[if_neg (λz=>c (beq_iff_eq.mp z))]
    show wpS _ _ _ _ (if l+1>=n then _ else _) _ _;have M2:CM L a b st (d.push a[f]) (f+1) g h (p+(y+1)):={m,'o',q,M.like,'o'};by_cases o:l+1>=n
    ·rw[if_pos o]
     exact ak (u _ _ _ _ _ _ (M2.le 'o'))
    ·rw[if_neg o]
     exact ak {_,_,_,_,_,rfl,M2}
  ·rw[if_pos rfl]
   refine ag (aF q ?_);have m:Mg L a b (d.push b[g]).toList f (g+1):=by
    rw[Array.toList_push];exact M.m.pushB T.ub q λj g1 g2=>KeyOrd.kle_trans (KeyOrd.kle_of_klt v) (T.ua f j (AE _) g1 g2)
   show wpS _ _ _ _ (if (g+1 == b.size)=true then _ else _) _ _;by_cases c:g+1=b.size
   ·rw[if_pos (beq_iff_eq.mpr c)]
    exact ak (x _ _ _ (T.dB m (show b.size<=g+1 by omega) M.like))
   ·rw[if_neg (λz=>c (beq_iff_eq.mp z))]
    show wpS _ _ _ _ (if i+1>=n then _ else _) _ _;have M2:CM L a b st (d.push b[g]) f (g+1) h (p+(y+1)):={m,B,'o',M.like,'o'};by_cases o:i+1>=n
    ·rw[if_pos o]
     exact ak (u _ _ _ _ _ _ (M2.le 'o'))
    ·rw[if_neg o]
     exact ak {_,_,_,_,_,rfl,M2}
 ·obtain⟨d,f,g,l,i,e,M⟩:=r
  have:=M.ha;have:=M.hb;have:=M.far;omega
instance Gq(L:KeyKind)(a b:Array Keyed)(st:SortSt)(lo:Nat)(r:ForInStep S7)(st':SortSt):Prop:=
 match r with
 | .done c=>(∃q z,c=(some q,z)/\Dv L a b st q st')\/∃out ia ib mg ca cb,c=(none,out,ia,ib,mg,ca,cb)/\CM L a b st out ia ib st' lo
 | .yield c=>∃out ia ib mg ca cb,c=(none,out,ia,ib,mg,ca,cb)/\CM L a b st out ia ib st' lo
instance G3(a b out:Array Keyed)(ia ib mg ca cb:Nat):SM (ForInStep S7):=do
 let x <-elem' a ia
 if (ia+1+1 == a.size)=true then pure (ForInStep.done ((some (Ep a b (out.push x) (ia+1) ib),out.push x,ia+1,ib,mg,ca,cb):S7))
 else if (decide (ca<7)&&decide (cb<7))=true then pure (ForInStep.done ((none,out.push x,ia+1,ib,mg,ca,cb):S7)) else pure (ForInStep.yield ((none,out.push x,ia+1,ib,mg,ca,cb):S7))
def kL(T:Two prog w A E s L knd a b st){d:Array Keyed}{c e h i j g:Nat}{f:SortSt}(m:Mg L a b d.toList c e)(l:c+1<a.size)(n:e<b.size)(l:By st f)(p:h<=c+e+1)(o:L.blt (KK L b e) (KK L a c)=false) :
 wpS 'r' A E s (G3 a b d c e i j g) (Gq L a b st h) f:=by
 unfold G3;refine ag (aF (show c<a.size by omega) ?_);have i:Mg L a b (d.push a[c]).toList (c+1) e:=by
  rw[Array.toList_push];exact m.pushA T.ua 'o' λj g1 g2=>KeyOrd.kle_trans o (T.ub e j (AE _) g1 g2)
 by_cases g:c+1+1=a.size
 ·rw[if_pos (beq_iff_eq.mpr g)]
  exact ak (.inl {_,_,rfl,T.dL i g l})
 ·rw[if_neg (λz=>g (beq_iff_eq.mp z))]
  have M2:CM L a b st (d.push a[c]) (c+1) e f h:={i,'o',n,l,'o'};split
  ·exact ak (.inr {_,_,_,_,_,_,rfl,M2})
  ·exact ak {_,_,_,_,_,_,rfl,M2}
instance G2(a b out:Array Keyed)(ia ib mg ca cb:Nat):SM (ForInStep S7):=do
 let y <-elem' b ib
 if (ib+1 == b.size)=true then pure (ForInStep.done ((some (Cf a b (out.push y) ia (ib+1)),out.push y,ia,ib+1,mg,ca,cb):S7))
 else do
  let x <-elem' a ia
  let k <-Eg true x b (ib+1) (b.size-(ib+1)) 0
  match k with
  | some k=>
    if k>0 then
     if (ib+1+k == b.size)=true then pure (ForInStep.done ((some (Cf a b (out.push y++b.extract (ib+1) (ib+1+k)) ia (ib+1+k)),out.push y++b.extract (ib+1) (ib+1+k),ia,ib+1+k,mg,ca,k):S7))
     else G3 a b (out.push y++b.extract (ib+1) (ib+1+k)) ia (ib+1+k) mg ca k
    else G3 a b (out.push y) ia (ib+1) mg ca k
  | _=>pure (ForInStep.done ((some (Cf a b (out.push y) ia (ib+1)),out.push y,ia,ib+1,mg,ca,cb):S7))
def kM(T:Two prog w A E s L knd a b st){d:Array Keyed}{f c r n p g:Nat}{e:SortSt}(m:Mg L a b d.toList f c)(o:f+1<a.size)(i:c<b.size)(l:By st e)(h:r<=f+c+1)(q:∀j,f<=j->j<a.size->L.kle (KK L b c) (KK L a j)) :
 wpS 'r' A E s (G2 a b d f c n p g) (Gq L a b st r) e:=by
 unfold G2;refine ag (aF i ?_);have n:Mg L a b (d.push b[c]).toList f (c+1):=by
  rw[Array.toList_push];exact m.pushB T.ub i q
 by_cases g:c+1=b.size
 ·rw[if_pos (beq_iff_eq.mpr g)]
  exact ak (.inl {_,_,rfl,T.dB n (BY g.symm) l})
 rw[if_neg (λz=>g (beq_iff_eq.mp z))];have e:c+1+(b.size-(c+1))=b.size:=Fq i;have u:c+1<b.size:=Fu i g;have q:=Nat.sub_pos_of_lt u;have g:=Nat.lt_of_succ_lt o;refine ag (aF g (ag (cK (kJ T.C T.ka T.kb T.ub (BY e) g) (T.kind l) q λk i p g=>?_)));have m:c+1+k<=b.size:=Az (Di i _) (BY e);show wpS _ _ _ _ (if k>0 then _ else _) _ _;by_cases e:k>0
 ·rw[if_pos e]
  have v:Mg L a b (d.push b[c]++b.extract (c+1) (c+1+k)).toList f (c+1+k):=by
   rw[EC,bj m,Hb];exact n.takeB T.ub k m λi d j g1 g2=>KeyOrd.kle_trans (KeyOrd.kle_of_klt (p i d)) (T.ua f j (AE _) g1 g2)
  by_cases d:c+1+k=b.size
  ·rw[if_pos (beq_iff_eq.mpr d)]
   exact ak (.inl {_,_,rfl,T.dB v (BY d.symm) l})
  ·rw[if_neg (λz=>d (beq_iff_eq.mp z))]
   have i:=Fu m d;exact kL T v o i l (Az h (FV (Di (Az (Ff c) (Cq _ k)) f))) (g k (Am _) (Nat.lt_sub_of_add_lt (by rw[Cm];exact i)))
 ·rw[if_neg e]
  cases Nat.eq_zero_of_not_pos e;exact kL T n o u l (Nat.le_succ_of_le h) (g 0 (Am _) q)
instance G1(a b out:Array Keyed)(ia ib mg ca cb:Nat):SM (ForInStep S7):=do
 ER mg
 let y <-elem' b ib
 let k <-Eg false y a ia (a.size-ia) 0
 match k with
 | some k=>
   if k>0 then
    if (ia+k+1 == a.size)=true then pure (ForInStep.done ((some (Ep a b (out++a.extract ia (ia+k)) (ia+k) ib),out++a.extract ia (ia+k),ia+k,ib,mg,k,cb):S7))
    else if (ia+k == a.size)=true then pure (ForInStep.done ((some (Cf a b (out++a.extract ia (ia+k)) (ia+k) ib),out++a.extract ia (ia+k),ia+k,ib,mg,k,cb):S7))
    else G2 a b (out++a.extract ia (ia+k)) (ia+k) ib mg k cb
   else G2 a b out ia ib mg k cb
 | _=>pure (ForInStep.done ((some (Cf a b out ia ib),out,ia,ib,mg,ca,cb):S7))
def rs(T:Two prog w A E s L knd a b st){d:Array Keyed}{c f q h i g:Nat}{e:SortSt}(M:CM L a b st d c f e q):wpS 'r' A E s (G1 a b d c f h i g) (Gq L a b st (q+1)) e:=by
 unfold G1;have p:=M.ha;have h:=M.hb;have e:=M.far;refine ag (eZ M.like λe l=>?_);have g:=Nat.lt_of_succ_lt p;have e:c+(a.size-c)=a.size:=Fq (BC g);refine ag (aF h (ag (cK (kI T.C T.ka T.kb T.ua (BY e) h) (T.kind l) (Nat.sub_pos_of_lt g) λk j n i=>?_)));have g:c+k<=a.size:=Az (Di j _) (BY e);show wpS _ _ _ _ (if k>0 then _ else _) _ _;have o:∀j,c+k<=j->j<a.size->L.kle (KK L b f) (KK L a j):=λj g1 g2=>by
  obtain⟨t,rfl⟩:=Nat.le.dest (Az (Cq c k) g1);have:=i t (Nat.le_of_add_le_add_left g1) (Nat.lt_sub_of_add_lt (by rw[Cm];exact g2));exact KeyOrd.kle_of_klt (show L.blt (KK L b f) (KK L a (c+t))=true by simpa using this)
 by_cases e:k>0
 ·rw[if_pos e]
  have m:Mg L a b (d++a.extract c (c+k)).toList (c+k) f:=by
   rw[EC,bj g,Hb];refine M.m.takeA T.ua k g λi d j g1 g2=>?_
   have:=n i d;exact KeyOrd.kle_trans (show L.blt (KK L b f) (KK L a (c+i))=false by simpa using this) (T.ub f j (AE _) g1 g2)
  by_cases d:c+k+1=a.size
  ·rw[if_pos (beq_iff_eq.mpr d)]
   exact ak (.inl {_,_,rfl,T.dL m d l})
  rw[if_neg (λz=>d (beq_iff_eq.mp z))];by_cases f:c+k=a.size
  ·rw[if_pos (beq_iff_eq.mpr f)]
   exact ak (.inl {_,_,rfl,T.dA m (BY f.symm) l})
  rw[if_neg (λz=>f (beq_iff_eq.mp z))];exact kM T m (Fu (Fu g f) d) h l 'o' o
 ·rw[if_neg e]
  cases Nat.eq_zero_of_not_pos e;exact kM T M.m p h l 'o' o
def HA(a b:Array Keyed)(c:S7):SM S7:=forIn [0:a.size+b.size] c λ_ r=>
 if r.2.2.2.2.1>1 then G1 a b r.2.1 r.2.2.1 r.2.2.2.1 (r.2.2.2.2.1-1) r.2.2.2.2.2.1 r.2.2.2.2.2.2 else G1 a b r.2.1 r.2.2.1 r.2.2.2.1 r.2.2.2.2.1 r.2.2.2.2.2.1 r.2.2.2.2.2.2
abbrev S5:=Option (Array Keyed)×Array Keyed×Nat×Nat×Nat
def IC(a b:Array Keyed)(r:S5):SM (ForInStep S5):=do
 let c <-Hy a b r.2.2.2.2 (none,r.2.1,r.2.2.1,r.2.2.2.1,0,0)
 match c.1 with
 | some q=>pure (ForInStep.done (some q,c.2.1,c.2.2.1,c.2.2.2.1,r.2.2.2.2))
 | none=>do
   rule "list.sort.gallop"
   let d <-HA a b (none,c.2.1,c.2.2.1,c.2.2.2.1,r.2.2.2.2+1,c.2.2.2.2.1,c.2.2.2.2.2)
   match d.1 with
   | some q=>pure (ForInStep.done (some q,d.2.1,d.2.2.1,d.2.2.2.1,d.2.2.2.2.1))
   | none=>do
     ER (d.2.2.2.2.1+1)
     pure (ForInStep.yield (none,d.2.1,d.2.2.1,d.2.2.2.1,d.2.2.2.2.1+1))
def KG(c:S5):SM (Array Keyed):=match c.1 with
 | some q=>pure q
 | none=>unsupported "internal:list.sort.merge-bound"
open H in
def rz(a b:Array Keyed):mlo a b=(do
 rule "list.sort.merge-lo"
 let y <-elem' b 0
 if (1 == b.size)=true then pure (Cf a b #[y] 0 1)
 else if (0+1 == a.size)=true then pure (Ep a b #[y] 0 1)
 else do
  let st <-get
  let c <-forIn [0:a.size+b.size] ((none,#[y],0,1,gallopOf st):S5) λ_ r=>IC a b r
  KG c):=by
 rw[rn];refine congrArg _ (funext λ_=>congrArg _ (funext λy=>?_));dsimp only;refine congrArg _ (congrArg _ (congrArg _ (funext λst=>?_)));refine congr (congrArg bind (congrArg _ (funext λ_=>funext λr=>?_))) ?_
 ·unfold IC
  refine congr (congrArg bind ?_) (funext λc=>?_)
  ·unfold Hy;rfl
  ·obtain⟨f,g⟩:=c
   cases f with
   | some q=>rfl
   | none=>
     dsimp only;refine congrArg _ (funext λ_=>?_);refine congr (congrArg bind ?_) (funext λd=>?_)
     ·unfold HA
      refine congrArg _ (funext λ_=>funext λr=>?_);unfold G1 G2 G3;by_cases e:r.2.2.2.2.1>1
      ·first | rewrite [if_pos e,if_pos e] | rewrite [if_pos e]
       refine congrArg _ (funext λ_=>congrArg _ (funext λ_=>congrArg _ (funext λk=>?_)));cases k with
       | none=>rfl
       | some k=>rfl
      ·first | rewrite [if_neg e,if_neg e] | rewrite [if_neg e]
       refine congrArg _ (funext λ_=>congrArg _ (funext λ_=>congrArg _ (funext λk=>?_)));cases k with
       | none=>rfl
       | some k=>rfl
     ·obtain⟨e,h⟩:=d
      cases e<;>rfl
 ·funext c
  obtain⟨f,g⟩:=c;cases f<;>rfl
def rA(T:Two prog w A E s L knd a b st){d:Array Keyed}{h i o g l j:Nat}{c:SortSt}(M:CM L a b st d h i c o){Q:S7->SortSt->Prop}(u:∀q z f,Dv L a b st q f->Q (some q,z) f)(v:∀d h i g l j f,CM L a b st d h i f o->Q (none,d,h,i,g,l,j) f):wpS 'r' A E s (HA a b (none,d,h,i,g,l,j)) Q c:=by
 unfold HA;refine aS (I:=λy c f=>∃d h i g l j,c=(none,d,h,i,g,l,j)/\CM L a b st d h i f (o+y)) (λy c f e m p=>?_) (λc f p=>?_) ⟨d,h,i,g,l,j,rfl,M⟩
 ·obtain⟨d,h,i,g,l,j,e,M⟩:=p
  subst e;have fin:∀(g:Nat),wpS 'r' A E s (G1 a b d h i g l j) (λr c=>match r with | .done n=>Q n c | .yield n=>∃d h i g l j,n=(none,d,h,i,g,l,j)/\CM L a b st d h i c (o+(y+1))) f:=λg=>aN (rs T M) λr c m=>by
   cases r with
   | done n=>
     rcases m with⟨q,z,e,f⟩ | ⟨d,h,i,g,l,j,e,M⟩
     ·subst e;exact u q z c f
     ·subst e;exact v _ _ _ _ _ _ c (M.le 'o')
   | yield n=>exact m
  show wpS _ _ _ _ (if g>1 then G1 a b d h i (g-1) l j else G1 a b d h i g l j) _ _;by_cases f:g>1
  ·rw[if_pos f];exact aN (fin (g-1)) λr c m=>by cases r<;>exact m
  ·rw[if_neg f];exact aN (fin g) λr c m=>by cases r<;>exact m
 ·obtain⟨d,h,i,g,l,j,e,M⟩:=p
  have:=M.ha;have:=M.hb;have:=M.far;omega
def rB(T:Two prog w A E s L knd a b st)(c:0<a.size)(e:0<b.size)(f:L.kle (KK L b 0) (KK L a 0)){Q:Array Keyed->SortSt->Prop}(h:∀r d,By st d->Er L a b r.toList->Q r d):wpS 'r' A E s (mlo a b) Q st:=by
 rw[rz];refine ag (wpS_lift (aW {rfl,?_}));refine ag (aF e ?_);have l:Mg L a b [b[0]] 0 1:=by
  have z:Mg L a b [] 0 0:={'d',List.Pairwise.nil,λx c=>absurd c 'd',λx c=>absurd c 'd'};exact z.pushB T.ub e λj _ c=>KeyOrd.kle_trans f (T.ua 0 j (Am _) (AE _) c)
 by_cases e:(1 == b.size)=true
 ·rw[if_pos e]
  have f:=T.dB (out:=#[b[0]]) l (by have:=beq_iff_eq.mp e;omega) By.refl;exact ak (h _ _ f.1 f.2)
 rw[if_neg e];by_cases c:(0+1 == a.size)=true
 ·rw[if_pos c]
  have f:=T.dL (out:=#[b[0]]) l (by simpa using c) By.refl;exact ak (h _ _ f.1 f.2)
 rw[if_neg c];have g:1<b.size:=by
  have:¬1=b.size:=by simpa using e
  omega
 have g:1<a.size:=by
  have:¬1=a.size:=by simpa using c
  omega
 refine ag (wpS_get ?_);refine ag (aN (aS (I:=λx c d=>∃out g i m,c=(none,out,g,i,m)/\CM L a b st out g i d (1+x)) (Q:=λc d=>∃r z,c=(some r,z)/\Dv L a b st r d) (λx c d e n j=>?_) (λc d j=>?_) {#[b[0]],0,1,_,rfl,l,'o','o',By.refl,'o'}) λc d j=>?_)
 ·obtain⟨out,g,i,m,e,M⟩:=j
  subst e;unfold IC;refine ag (rq T M (λr z c f=>?_) λout g i n l c M2=>?_)
  ·exact ak {r,_,rfl,f}
  ·refine ag (wpS_lift (aW {rfl,?_}))
   refine ag (rA T M2 (λq z d f=>?_) λout g i m n l d c=>?_)
   ·exact ak {q,_,rfl,f}
   ·exact ag (eZ c.like λd l=>ak {out,g,i,_,rfl,c.m,c.ha,c.hb,l,c.far})
 ·obtain⟨out,g,i,m,e,M⟩:=j
  have:=M.ha;have:=M.hb;have:=M.far;omega
 ·obtain⟨r,z,e,f⟩:=j
  subst e;exact ak (h _ _ f.1 f.2)
end
instance mhi:Array Keyed->Array Keyed->SM (Array Keyed):=sortPriv% PySem.Builtin.mergeHi
abbrev Cg(a b out:Array Keyed)(na nb:Nat):Array Keyed:=a.extract 0 na++b.extract 0 nb++out.reverse
abbrev Es(a b out:Array Keyed)(na nb:Nat):Array Keyed:=b.extract 0 nb++a.extract 0 na++out.reverse
def rC(a b:Array Keyed):mhi a b=(do
 rule "list.sort.merge-hi"
 let mut na:=a.size-1
 let mut nb:=b.size
 let mut out:Array Keyed:=#[<-elem' a na]
 if na == 0 then return Cg a b out na nb
 if nb == 1 then return Es a b out na nb
 let mut mg:=gallopOf (<-get)
 for _ in [0:a.size+b.size] do
  let mut ca:=0
  let mut cb:=0
  for _ in [0:a.size+b.size] do
   let some y <-lt' (<-elem' b (nb-1)) (<-elem' a (na-1)) | return Cg a b out na nb
   if y then
    na:=na-1
    out:=out.push (<-elem' a na)
    ca:=ca+1
    cb:=0
    if na == 0 then return Cg a b out na nb
    if ca>=mg then break
   else
    nb:=nb-1
    out:=out.push (<-elem' b nb)
    cb:=cb+1
    ca:=0
    if nb == 1 then return Es a b out na nb
    if cb>=mg then break
  rule "list.sort.gallop"
  mg:=mg+1
  for _ in [0:a.size+b.size] do
   if mg>1 then mg:=mg-1
   ER mg
   let some p <-Eg false (<-elem' b (nb-1)) a 0 na (na-1) | return Cg a b out na nb
   ca:=na-p
   if na-p>0 then
    out:=out++(a.extract p na).reverse
    na:=p
    if na == 0 then return Cg a b out na nb
   nb:=nb-1
   out:=out.push (<-elem' b nb)
   if nb == 1 then return Es a b out na nb
   let some p <-Eg true (<-elem' a (na-1)) b 0 nb (nb-1) | return Cg a b out na nb
   cb:=nb-p
   if nb-p>0 then
    out:=out++(b.extract p nb).reverse
    nb:=p
    if nb == 1 then return Es a b out na nb
    if nb == 0 then return Cg a b out na nb
   na:=na-1
   out:=out.push (<-elem' a na)
   if na == 0 then return Cg a b out na nb
   if ca<7&&cb<7 then break
  mg:=mg+1
  ER mg
 unsupported "internal:list.sort.merge-bound"):=rfl
section
variable{L:KeyKind}{a b:Array Keyed}{t:List Keyed}{na nb:Nat}
structure Mh(L:KeyKind)(a b:Array Keyed)(t:List Keyed)(na nb:Nat):Prop where
 perm:((a.toList.take na++b.toList.take nb)++t).Perm (a.toList++b.toList)
 up:t.Pairwise (le L)
 la:∀x∈t,∀i,i<na->L.kle (KK L a i) (ky L x)
 lb:∀x∈t,∀i,i<nb->L.kle (KK L b i) (ky L x)
def gG{c:Array Keyed}{i:Nat}(h:i<c.size):c.toList.take (i+1)=c.toList.take i++[c[i]]:=by
 rw[Cy];simp[Ha h]
def Mh.pushA(m:Mh L a b t (na+1) nb)(f:Up L a 0 a.size)(d:na<a.size)(h:∀j,j<nb->L.kle (KK L b j) (KK L a na)):Mh L a b (a[na]::t) na nb:=by
 refine{?_,Ea.mpr {λz g=>?_,m.up},λx c i e=>?_,λx c i e=>?_}
 ·have:=m.perm
  rw[gG d] at this;refine List.Perm.trans ?_ this;rw[BB,BB,BB];exact List.Perm.append_left _ (List.perm_middle (l₁:=b.toList.take nb))
 ·have:=m.la z g na 'o'
  rwa [aC d] at this
 ·rcases AK.mp c with c | c
  ·rw[c,<-aC d]
   exact f i na (AE _) 'o' d
  ·exact m.la x c i 'o'
 ·rcases AK.mp c with c | c
  ·rw[c,<-aC d]
   exact h i e
  ·exact m.lb x c i e
def Mh.pushB(m:Mh L a b t na (nb+1))(f:Up L b 0 b.size)(d:nb<b.size)(h:∀j,j<na->L.kle (KK L a j) (KK L b nb)):Mh L a b (b[nb]::t) na nb:=by
 refine{?_,Ea.mpr {λz g=>?_,m.up},λx c i e=>?_,λx c i e=>?_}
 ·have:=m.perm
  rw[gG d] at this;simpa [BB] using this
 ·have:=m.lb z g nb 'o'
  rwa [aC d] at this
 ·rcases AK.mp c with c | c
  ·rw[c,<-aC d]
   exact h i e
  ·exact m.la x c i e
 ·rcases AK.mp c with c | c
  ·rw[c,<-aC d]
   exact f i nb (AE _) 'o' d
  ·exact m.lb x c i 'o'
def kN{c:Array Keyed}{i k:Nat}(h:i<c.size):(c.toList.drop i).take (k+1)=c[i]::(c.toList.drop (i+1)).take k:=by
 rw[eX h,List.take_succ_cons]
theorem Mh.takeA(c:Up L a 0 a.size):∀(k p:Nat) (t:List Keyed),Mh L a b t (p+k) nb->p+k<=a.size->(∀i,p<=i->i<p+k->∀j,j<nb->L.kle (KK L b j) (KK L a i))->Mh L a b ((a.toList.drop p).take k++t) p nb
 | 0,p,t,m,_,_=>by simpa using m
 | k+1,p,t,m,d,h=>by
   have ih:=Mh.takeA c k (p+1) t (by rw[show p+1+k=p+(k+1) by omega];exact m) 'o' λi d e=>h i 'o' 'o'
   have:=ih.pushA c 'o' (h p (Am _) 'o');rw[kN 'o'];exact this
theorem Mh.takeB(c:Up L b 0 b.size):∀(k p:Nat) (t:List Keyed),Mh L a b t na (p+k)->p+k<=b.size->(∀i,p<=i->i<p+k->∀j,j<na->L.kle (KK L a j) (KK L b i))->Mh L a b ((b.toList.drop p).take k++t) na p
 | 0,p,t,m,_,_=>by simpa using m
 | k+1,p,t,m,d,h=>by
   have ih:=Mh.takeB c k (p+1) t (by rw[show p+1+k=p+(k+1) by omega];exact m) 'o' λi d e=>h i 'o' 'o'
   have:=ih.pushB c 'o' (h p (Am _) 'o');rw[kN 'o'];exact this
def gH{c:Array Keyed}{i:Nat}(u:Up L c 0 c.size):(c.toList.take i).Pairwise (le L):=(eY (i:=0) u).sublist (List.take_sublist _ _)
def dJ{c:Array Keyed}{i:Nat}{x:Keyed}(h:x∈c.toList.take i):∃j,j<i/\j<c.size/\ky L x=KK L c j:=by
 obtain⟨j,d,e⟩:=List.getElem_of_mem h;rw[C7,EV] at d;refine{j,'o','o',?_};rw[aC 'o',<-e];simp[List.getElem_take]
def Mh.doneB(m:Mh L a b t na 0)(c:Up L a 0 a.size):Er L a b (a.toList.take na++b.toList.take 0++t):=by
 refine{m.perm,?_};rw[List.take_zero,Ck];refine Ez.mpr {gH c,m.up,λx f y d=>?_};obtain⟨j,c,g,e⟩:=dJ (L:=L) f;show L.kle (ky L x) (ky L y);rw[e];exact m.la y d j c
def Mh.doneA(m:Mh L a b t 0 nb)(e:Up L b 0 b.size):Er L a b (a.toList.take 0++b.toList.take nb++t):=by
 refine{m.perm,?_};rw[List.take_zero,List.nil_append];refine Ez.mpr {gH e,m.up,λx d y c=>?_};obtain⟨j,f,g,e⟩:=dJ (L:=L) d;show L.kle (ky L x) (ky L y);rw[e];exact m.lb y c j f
def Mh.first(m:Mh L a b t na 1)(f:Up L a 0 a.size)(d:0<b.size)(h:∀j,j<a.size->L.kle (KK L b 0) (KK L a j)):Er L a b (b.toList.take 1++a.toList.take na++t):=by
 have e:b.toList.take 1=[b[0]]:=by rw[gG d];simp
 refine{?_,?_}
 ·refine List.Perm.trans (List.Perm.append_right _ List.perm_append_comm) m.perm
 ·rw[e,BB,List.singleton_append]
  refine Ea.mpr {λy c=>?_,Ez.mpr {gH f,m.up,λx g y c=>?_}}
  ·show L.kle (ky L b[0]) (ky L y)
   rw[<-aC d];rcases BP.mp c with c | c
   ·obtain⟨j,d,f,e⟩:=dJ (L:=L) c
    rw[e];exact h j f
   ·exact m.lb y c 0 'o'
  ·obtain⟨j,d,f,e⟩:=dJ (L:=L) g
   show L.kle (ky L x) (ky L y);rw[e];exact m.la y c j d
end
section
variable{prog:Program}{w:World}{A:Around}{E:Value->Shared->Prop}{s:Shared}{L:KeyKind}{knd:SortKind}{st:SortSt}{a b:Array Keyed}
structure CN(L:KeyKind)(a b:Array Keyed)(st:SortSt)(na nb:Nat)(out:Array Keyed)(st':SortSt)(lo:Nat):Prop where
 m:Mh L a b out.toList.reverse na nb
 ha:0<na
 hb:1<nb
 la:na<=a.size
 lb:nb<=b.size
 like:By st st'
 far:na+nb+lo<=a.size+b.size
def CN.le{st:SortSt}{c:Array Keyed}{g i f e:Nat}{d:SortSt}(M:CN L a b st g i c d f)(h:e<=f):CN L a b st g i c d e:={M.m,M.ha,M.hb,M.la,M.lb,M.like,by have:=M.far;omega}
def kO(c:Array Keyed){d e:Nat}(f:d<=a.size)(g:e<=b.size):(Cg a b c d e).toList=a.toList.take d++b.toList.take e++c.toList.reverse:=by
 unfold Cg;rw[EC,EC,bj f,bj g,Array.toList_reverse];simp
def rD(c:Array Keyed){d e:Nat}(f:d<=a.size)(g:e<=b.size):(Es a b c d e).toList=b.toList.take e++a.toList.take d++c.toList.reverse:=by
 unfold Es;rw[EC,EC,bj f,bj g,Array.toList_reverse];simp
structure Tw(prog:Program)(w:World)(A:Around)(E:Value->Shared->Prop)(s:Shared)(L:KeyKind)(knd:SortKind)(a b:Array Keyed)(st:SortSt):Prop extends Two prog w A E s L knd a b st where
 hf:∀j,j<a.size->L.kle (KK L b 0) (KK L a j)
section
variable{out:Array Keyed}{na nb lo:Nat}{st':SortSt}(T:Tw prog w A E s L knd a b st)
include T
def Tw.dB(m:Mh L a b out.toList.reverse na nb)(c:na<=a.size)(h:nb=0)(l:By st st'):Dv L a b st (Cg a b out na nb) st':={l,by subst h;rw[kO _ c (AE _)];exact m.doneB T.ua}
def Tw.dA(m:Mh L a b out.toList.reverse na nb)(c:nb<=b.size)(h:na=0)(l:By st st'):Dv L a b st (Cg a b out na nb) st':={l,by subst h;rw[kO _ (AE _) c];exact m.doneA T.ub}
def Tw.dF(m:Mh L a b out.toList.reverse na nb)(d:na<=a.size)(c:nb<=b.size)(h:nb=1)(l:By st st'):Dv L a b st (Es a b out na nb) st':={l,by subst h;rw[rD _ d c];exact m.first T.ua c T.hf}
end
def kP(c:Array Keyed)(x:Keyed):(c.push x).toList.reverse=x::c.toList.reverse:=by simp
def kQ(c:Array Keyed){d:Array Keyed}{p q:Nat}(h:q<=d.size):(c++(d.extract p q).reverse).toList.reverse=(d.toList.drop p).take (q-p)++c.toList.reverse:=by
 rw[EC,Array.toList_reverse,bj h,List.reverse_append,List.reverse_reverse]
section
variable{out:Array Keyed}{na nb lo:Nat}{st':SortSt}(T:Tw prog w A E s L knd a b st)
include T
def Tw.putA(m:Mh L a b out.toList.reverse na nb)(c:0<na)(d:na<=a.size)(h:∀j,j<nb->L.kle (KK L b j) (KK L a (na-1))):Mh L a b (out.push (a[na-1]'('o'))).toList.reverse (na-1) nb:=by
 obtain⟨n,rfl⟩:∃n,na=n+1:={na-1,'o'};rw[kP];exact m.pushA T.ua (show n<a.size by omega) h
def Tw.putB(m:Mh L a b out.toList.reverse na nb)(c:0<nb)(d:nb<=b.size)(h:∀j,j<na->L.kle (KK L a j) (KK L b (nb-1))):Mh L a b (out.push (b[nb-1]'('o'))).toList.reverse na (nb-1):=by
 obtain⟨n,rfl⟩:∃n,nb=n+1:={nb-1,'o'};rw[kP];exact m.pushB T.ub (show n<b.size by omega) h
def Tw.manyA(m:Mh L a b out.toList.reverse na nb){p:Nat}(d:p<=na)(c:na<=a.size)(h:∀i,p<=i->i<na->∀j,j<nb->L.kle (KK L b j) (KK L a i)):Mh L a b (out++(a.extract p na).reverse).toList.reverse p nb:=by
 rw[kQ out c];exact Mh.takeA T.ua (na-p) p _ (by rw[show p+(na-p)=na by omega];exact m) 'o' λi c d=>h i c 'o'
def Tw.manyB(m:Mh L a b out.toList.reverse na nb){p:Nat}(d:p<=nb)(c:nb<=b.size)(h:∀i,p<=i->i<nb->∀j,j<na->L.kle (KK L a j) (KK L b i)):Mh L a b (out++(b.extract p nb).reverse).toList.reverse na p:=by
 rw[kQ out c];exact Mh.takeB T.ub (nb-p) p _ (by rw[show p+(nb-p)=nb by omega];exact m) 'o' λi c d=>h i c 'o'
end
abbrev H6:=Option (Array Keyed)×Nat×Nat×Array Keyed×Nat×Nat
abbrev H7:=Option (Array Keyed)×Nat×Nat×Array Keyed×Nat×Nat×Nat
def HB(a b:Array Keyed)(mg:Nat)(c:H6):SM H6:=forIn [0:a.size+b.size] c λ_ r=>do
 let y <-elem' b (r.2.2.1-1)
 let x <-elem' a (r.2.1-1)
 let z <-lt' y x
 match z with
 | some t=>
   if t=true then do
    let x <-elem' a (r.2.1-1)
    if (r.2.1-1 == 0)=true then pure (ForInStep.done (some (Cg a b (r.2.2.2.1.push x) (r.2.1-1) r.2.2.1),r.2.1-1,r.2.2.1,r.2.2.2.1.push x,r.2.2.2.2.1+1,0))
    else if r.2.2.2.2.1+1>=mg then pure (ForInStep.done (none,r.2.1-1,r.2.2.1,r.2.2.2.1.push x,r.2.2.2.2.1+1,0)) else pure (ForInStep.yield (none,r.2.1-1,r.2.2.1,r.2.2.2.1.push x,r.2.2.2.2.1+1,0))
   else do
    let y <-elem' b (r.2.2.1-1)
    if (r.2.2.1-1 == 1)=true then pure (ForInStep.done (some (Es a b (r.2.2.2.1.push y) r.2.1 (r.2.2.1-1)),r.2.1,r.2.2.1-1,r.2.2.2.1.push y,0,r.2.2.2.2.2+1))
    else if r.2.2.2.2.2+1>=mg then pure (ForInStep.done (none,r.2.1,r.2.2.1-1,r.2.2.2.1.push y,0,r.2.2.2.2.2+1)) else pure (ForInStep.yield (none,r.2.1,r.2.2.1-1,r.2.2.2.1.push y,0,r.2.2.2.2.2+1))
 | _=>pure (ForInStep.done (some (Cg a b r.2.2.2.1 r.2.1 r.2.2.1),r.2.1,r.2.2.1,r.2.2.2.1,r.2.2.2.2.1,r.2.2.2.2.2))
def rE(T:Tw prog w A E s L knd a b st){d:Array Keyed}{h g p n l i:Nat}{c:SortSt}(M:CN L a b st h g d c p){Q:H6->SortSt->Prop}(C:∀r z f,Dv L a b st r f->Q (some r,z) f)(v:∀d h g l i f,CN L a b st h g d f (p+1)->Q (none,h,g,d,l,i) f) :
 wpS 'r' A E s (HB a b n (none,h,g,d,l,i)) Q c:=by
 unfold HB;refine aS (I:=λy c f=>∃d h g l i,c=(none,h,g,d,l,i)/\CN L a b st h g d f (p+y)) (λy c f e j r=>?_) (λc f r=>?_) ⟨d,h,g,l,i,rfl,M⟩
 ·obtain⟨d,h,g,l,i,e,M⟩:=r
  subst e;have x:=M.ha;have G:=M.hb;have c:=M.far;have u:=M.la;have q:=M.lb;refine ag (aF (show g-1<b.size by omega) (ag (aF (show h-1<a.size by omega) (ag (cM T.C (T.kind M.like) T.kb T.ka 'o' 'o' ?_)))));show wpS _ _ _ _ (if L.blt (KK L b (g-1)) (KK L a (h-1))=true then _ else _) _ _;cases B:L.blt (KK L b (g-1)) (KK L a (h-1))
  ·rw[if_neg BA]
   refine ag (aF (show g-1<b.size by omega) ?_);have m:=T.putB M.m 'o' q λj g1=>KeyOrd.kle_trans (T.ua j (h-1) (AE _) 'o' 'o') B
   show wpS _ _ _ _ (if (g-1 == 1)=true then _ else _) _ _;by_cases c:g-1=1
   ·rw[if_pos (beq_iff_eq.mpr c)]
    exact ak (C _ _ _ (T.dF m u (show g-1<=b.size by omega) c M.like))
   ·rw[if_neg (λz=>c (beq_iff_eq.mp z))]
    show wpS _ _ _ _ (if i+1>=n then _ else _) _ _;have M2:CN L a b st h (g-1) (d.push b[g-1]) f (p+(y+1)):={m,x,'o',u,'o',M.like,'o'};by_cases o:i+1>=n
    ·rw[if_pos o]
     exact ak (v _ _ _ _ _ _ (M2.le 'o'))
    ·rw[if_neg o]
     exact ak {_,_,_,_,_,rfl,M2}
  ·rw[if_pos rfl]
   refine ag (aF (show h-1<a.size by omega) ?_);have m:=T.putA M.m x u λj g1=>KeyOrd.kle_trans (T.ub j (g-1) (AE _) 'o' 'o') (KeyOrd.kle_of_klt B)
   show wpS _ _ _ _ (if (h-1 == 0)=true then _ else _) _ _;by_cases c:h-1=0
   ·rw[if_pos (beq_iff_eq.mpr c)]
    exact ak (C _ _ _ (T.dA m q c M.like))
   ·rw[if_neg (λz=>c (beq_iff_eq.mp z))]
    show wpS _ _ _ _ (if l+1>=n then _ else _) _ _;have M2:CN L a b st (h-1) g (d.push a[h-1]) f (p+(y+1)):={m,'o',G,'o',q,M.like,'o'};by_cases o:l+1>=n
    ·rw[if_pos o]
     exact ak (v _ _ _ _ _ _ (M2.le 'o'))
    ·rw[if_neg o]
     exact ak {_,_,_,_,_,rfl,M2}
 ·obtain⟨d,h,g,l,i,e,M⟩:=r
  have:=M.ha;have:=M.hb;have:=M.far;omega
instance Hq(L:KeyKind)(a b:Array Keyed)(st:SortSt)(lo:Nat)(r:ForInStep H7)(st':SortSt):Prop:=
 match r with
 | .done c=>(∃q z,c=(some q,z)/\Dv L a b st q st')\/∃na nb out mg ca cb,c=(none,na,nb,out,mg,ca,cb)/\CN L a b st na nb out st' lo
 | .yield c=>∃na nb out mg ca cb,c=(none,na,nb,out,mg,ca,cb)/\CN L a b st na nb out st' lo
instance H3(a b:Array Keyed)(na nb:Nat)(out:Array Keyed)(mg ca cb:Nat):SM (ForInStep H7):=do
 let x <-elem' a (na-1)
 if (na-1 == 0)=true then pure (ForInStep.done ((some (Cg a b (out.push x) (na-1) nb),na-1,nb,out.push x,mg,ca,cb):H7))
 else if (decide (ca<7)&&decide (cb<7))=true then pure (ForInStep.done ((none,na-1,nb,out.push x,mg,ca,cb):H7)) else pure (ForInStep.yield ((none,na-1,nb,out.push x,mg,ca,cb):H7))
def kR(T:Tw prog w A E s L knd a b st){e:Array Keyed}{c d h i r g:Nat}{f:SortSt}(m:Mh L a b e.toList.reverse c d)(o:0<c)(q:1<d)(p:c<=a.size)(n:d<=b.size)(l:By st f)(j:c+d+h<=a.size+b.size+1)(u:∀j,j<d->L.kle (KK L b j) (KK L a (c-1))) :
 wpS 'r' A E s (H3 a b c d e i r g) (Hq L a b st h) f:=by
 unfold H3;refine ag (aF (show c-1<a.size by omega) ?_);have i:=T.putA m o p u;by_cases g:c-1=0
 ·rw[if_pos (beq_iff_eq.mpr g)]
  exact ak (.inl {_,_,rfl,T.dA i n g l})
 ·rw[if_neg (λz=>g (beq_iff_eq.mp z))]
  have M2:CN L a b st (c-1) d (e.push a[c-1]) f h:={i,'o',q,'o',n,l,'o'};split
  ·exact ak (.inr {_,_,_,_,_,_,rfl,M2})
  ·exact ak {_,_,_,_,_,_,rfl,M2}
instance H2(a b:Array Keyed)(na nb:Nat)(out:Array Keyed)(mg ca cb:Nat):SM (ForInStep H7):=do
 let y <-elem' b (nb-1)
 if (nb-1 == 1)=true then pure (ForInStep.done ((some (Es a b (out.push y) na (nb-1)),na,nb-1,out.push y,mg,ca,cb):H7))
 else do
  let x <-elem' a (na-1)
  let p <-Eg true x b 0 (nb-1) (nb-1-1)
  match p with
  | some p=>
    if nb-1-p>0 then
     if (p == 1)=true then pure (ForInStep.done ((some (Es a b (out.push y++(b.extract p (nb-1)).reverse) na p),na,p,out.push y++(b.extract p (nb-1)).reverse,mg,ca,nb-1-p):H7))
     else if (p == 0)=true then pure (ForInStep.done ((some (Cg a b (out.push y++(b.extract p (nb-1)).reverse) na p),na,p,out.push y++(b.extract p (nb-1)).reverse,mg,ca,nb-1-p):H7))
     else H3 a b na p (out.push y++(b.extract p (nb-1)).reverse) mg ca (nb-1-p)
    else H3 a b na (nb-1) (out.push y) mg ca (nb-1-p)
  | _=>pure (ForInStep.done ((some (Cg a b (out.push y) na (nb-1)),na,nb-1,out.push y,mg,ca,cb):H7))
def kS(T:Tw prog w A E s L knd a b st){e:Array Keyed}{c d v p q o:Nat}{f:SortSt}(m:Mh L a b e.toList.reverse c d)(B:0<c)(h:1<d)(n:c<=a.size)(i:d<=b.size)(l:By st f)(g:c+d+v<=a.size+b.size+1)(r:∀j,j<c->L.kle (KK L a j) (KK L b (d-1))) :
 wpS 'r' A E s (H2 a b c d e p q o) (Hq L a b st v) f:=by
 obtain⟨q,rfl⟩:∃q,d=q+1:={d-1,(Nat.sub_add_cancel (BC h)).symm};have I:0<q:=Gw h;have u:q<=b.size:=BC i;have f:c-1<a.size:=AW (Nat.sub_lt B Nat.one_pos) n;have o:∀{p},p<=q->c+p+v<=a.size+b.size+1:=λh=>Az (Nat.add_le_add_right (Di (Nat.le_succ_of_le h) c) v) g
 unfold H2;simp only[Nat.add_sub_cancel] at r ⊢;refine ag (aF i ?_);have y:Mh L a b (e.push b[q]).toList.reverse c q:=T.putB m (Nat.succ_pos q) i r;by_cases g:q=1
 ·rw[if_pos (beq_iff_eq.mpr g)]
  exact ak (.inl {_,_,rfl,T.dF y n u g l})
 rw[if_neg (λz=>g (beq_iff_eq.mp z))];refine ag (aF f (ag (cK (kJ T.C T.ka T.kb T.ub (by rw[Ay];exact u) f) (T.kind l) (Nat.sub_lt I Nat.one_pos) λp C e m=>?_)));show wpS _ _ _ _ (if q-p>0 then _ else _) _ _;simp only[Ay] at e m;have r:∀j,j<p->L.kle (KK L b j) (KK L a (c-1)):=λj x=>KeyOrd.kle_of_klt (e j x)
 by_cases d:q-p>0
 ·rw[if_pos d]
  have J:=Az C u;have G:=T.manyB y C u λi g h j e=>KeyOrd.kle_trans (T.ua j (c-1) (AE _) (Nat.le_sub_one_of_lt e) f) (m i g h)
  by_cases h:p=1
  ·rw[if_pos (beq_iff_eq.mpr h)]
   exact ak (.inl {_,_,rfl,T.dF G n J h l})
  rw[if_neg (λz=>h (beq_iff_eq.mp z))];by_cases e:p=0
  ·rw[if_pos (beq_iff_eq.mpr e)]
   exact ak (.inl {_,_,rfl,T.dB G n e l})
  rw[if_neg (λz=>e (beq_iff_eq.mp z))];exact kR T G B (Fu (Nat.pos_of_ne_zero e) (Ne.symm h)) n J l (o C) r
 ·rw[if_neg d]
  exact kR T y B (Fu I (Ne.symm g)) n u l (o (Am q)) (λj x=>r j (AW x (Nat.le_of_sub_eq_zero (Nat.eq_zero_of_not_pos d))))
instance H1(a b:Array Keyed)(na nb:Nat)(out:Array Keyed)(mg ca cb:Nat):SM (ForInStep H7):=do
 ER mg
 let y <-elem' b (nb-1)
 let p <-Eg false y a 0 na (na-1)
 match p with
 | some p=>
   if na-p>0 then
    if (p == 0)=true then pure (ForInStep.done ((some (Cg a b (out++(a.extract p na).reverse) p nb),p,nb,out++(a.extract p na).reverse,mg,na-p,cb):H7))
    else H2 a b p nb (out++(a.extract p na).reverse) mg (na-p) cb
   else H2 a b na nb out mg (na-p) cb
 | _=>pure (ForInStep.done ((some (Cg a b out na nb),na,nb,out,mg,ca,cb):H7))
def rF(T:Tw prog w A E s L knd a b st){d:Array Keyed}{g c o h i f:Nat}{e:SortSt}(M:CN L a b st g c d e o):wpS 'r' A E s (H1 a b g c d h i f) (Hq L a b st (o+1)) e:=by
 unfold H1;have r:=M.ha;have q:=M.hb;have d:=M.far;have n:=M.la;have h:=M.lb;refine ag (eZ M.like λd l=>?_);refine ag (aF (show c-1<b.size by omega) (ag (cK (kI T.C T.ka T.kb T.ua 'o' 'o') (T.kind l) 'o' λp u d e=>?_)));show wpS _ _ _ _ (if g-p>0 then _ else _) _ _;simp only[Ay] at d e;have m:∀j,j<p->L.kle (KK L a j) (KK L b (c-1)):=λj g1=>by
  have:=d j g1;exact(show L.blt (KK L b (c-1)) (KK L a j)=false by simpa using this)
 by_cases f:g-p>0
 ·rw[if_pos f]
  have g:=T.manyA M.m u n λi d v j x=>by
   have:=e i d v;exact KeyOrd.kle_trans (T.ub j (c-1) (AE _) 'o' 'o') (KeyOrd.kle_of_klt (show L.blt (KK L b (c-1)) (KK L a i)=true by simpa using this))
  by_cases d:p=0
  ·rw[if_pos (beq_iff_eq.mpr d)]
   exact ak (.inl {_,_,rfl,T.dA g h d l})
  rw[if_neg (λz=>d (beq_iff_eq.mp z))];exact kS T g 'o' q 'o' h l 'o' m
 ·rw[if_neg f]
  exact kS T M.m r q n h l 'o' (λj c=>m j 'o')
def HC(a b:Array Keyed)(c:H7):SM H7:=forIn [0:a.size+b.size] c λ_ r=>
 if r.2.2.2.2.1>1 then H1 a b r.2.1 r.2.2.1 r.2.2.2.1 (r.2.2.2.2.1-1) r.2.2.2.2.2.1 r.2.2.2.2.2.2 else H1 a b r.2.1 r.2.2.1 r.2.2.2.1 r.2.2.2.2.1 r.2.2.2.2.2.1 r.2.2.2.2.2.2
abbrev H5:=Option (Array Keyed)×Nat×Nat×Array Keyed×Nat
def ID(a b:Array Keyed)(r:H5):SM (ForInStep H5):=do
 let c <-HB a b r.2.2.2.2 (none,r.2.1,r.2.2.1,r.2.2.2.1,0,0)
 match c.1 with
 | some q=>pure (ForInStep.done (some q,c.2.1,c.2.2.1,c.2.2.2.1,r.2.2.2.2))
 | none=>do
   rule "list.sort.gallop"
   let d <-HC a b (none,c.2.1,c.2.2.1,c.2.2.2.1,r.2.2.2.2+1,c.2.2.2.2.1,c.2.2.2.2.2)
   match d.1 with
   | some q=>pure (ForInStep.done (some q,d.2.1,d.2.2.1,d.2.2.2.1,d.2.2.2.2.1))
   | none=>do
     ER (d.2.2.2.2.1+1)
     pure (ForInStep.yield (none,d.2.1,d.2.2.1,d.2.2.2.1,d.2.2.2.2.1+1))
def KH(c:H5):SM (Array Keyed):=match c.1 with
 | some q=>pure q
 | none=>unsupported "internal:list.sort.merge-bound"
open H in
def rG(a b:Array Keyed):mhi a b=(do
 rule "list.sort.merge-hi"
 let x <-elem' a (a.size-1)
 if (a.size-1 == 0)=true then pure (Cg a b #[x] (a.size-1) b.size)
 else if (b.size == 1)=true then pure (Es a b #[x] (a.size-1) b.size)
 else do
  let st <-get
  let c <-forIn [0:a.size+b.size] ((none,a.size-1,b.size,#[x],gallopOf st):H5) λ_ r=>ID a b r
  KH c):=by
 rw[rC];refine congrArg _ (funext λ_=>?_);dsimp only;refine congrArg _ (funext λy=>?_);refine congrArg _ (congrArg _ (congrArg _ (funext λst=>?_)));refine congr (congrArg bind (congrArg _ (funext λ_=>funext λr=>?_))) ?_
 ·unfold ID
  refine congr (congrArg bind ?_) (funext λc=>?_)
  ·unfold HB;rfl
  ·obtain⟨f,g⟩:=c
   cases f with
   | some q=>rfl
   | none=>
     dsimp only;refine congrArg _ (funext λ_=>?_);refine congr (congrArg bind ?_) (funext λd=>?_)
     ·unfold HC
      refine congrArg _ (funext λ_=>funext λr=>?_);unfold H1 H2 H3;by_cases e:r.2.2.2.2.1>1
      ·first | rewrite [if_pos e,if_pos e] | rewrite [if_pos e]
       refine congrArg _ (funext λ_=>congrArg _ (funext λ_=>congrArg _ (funext λk=>?_)));cases k with
       | none=>rfl
       | some k=>rfl
      ·first | rewrite [if_neg e,if_neg e] | rewrite [if_neg e]
       refine congrArg _ (funext λ_=>congrArg _ (funext λ_=>congrArg _ (funext λk=>?_)));cases k with
       | none=>rfl
       | some k=>rfl
     ·obtain⟨e,h⟩:=d
      cases e<;>rfl
 ·funext c
  obtain⟨f,g⟩:=c;cases f<;>rfl
def rH(T:Tw prog w A E s L knd a b st){d:Array Keyed}{i h o g l j:Nat}{c:SortSt}(M:CN L a b st i h d c o){Q:H7->SortSt->Prop}(u:∀q z f,Dv L a b st q f->Q (some q,z) f)(v:∀i h d g l j f,CN L a b st i h d f o->Q (none,i,h,d,g,l,j) f):wpS 'r' A E s (HC a b (none,i,h,d,g,l,j)) Q c:=by
 unfold HC;refine aS (I:=λy c f=>∃i h d g l j,c=(none,i,h,d,g,l,j)/\CN L a b st i h d f (o+y)) (λy c f e m p=>?_) (λc f p=>?_) ⟨i,h,d,g,l,j,rfl,M⟩
 ·obtain⟨i,h,d,g,l,j,e,M⟩:=p
  subst e;have fin:∀(g:Nat),wpS 'r' A E s (H1 a b i h d g l j) (λr c=>match r with | .done n=>Q n c | .yield n=>∃i h d g l j,n=(none,i,h,d,g,l,j)/\CN L a b st i h d c (o+(y+1))) f:=λg=>aN (rF T M) λr c m=>by
   cases r with
   | done n=>
     rcases m with⟨q,z,e,f⟩ | ⟨i,h,d,g,l,j,e,M⟩
     ·subst e;exact u q z c f
     ·subst e;exact v _ _ _ _ _ _ c (M.le 'o')
   | yield n=>exact m
  show wpS _ _ _ _ (if g>1 then H1 a b i h d (g-1) l j else H1 a b i h d g l j) _ _;by_cases f:g>1
  ·rw[if_pos f];exact aN (fin (g-1)) λr c m=>by cases r<;>exact m
  ·rw[if_neg f];exact aN (fin g) λr c m=>by cases r<;>exact m
 ·obtain⟨i,h,d,g,l,j,e,M⟩:=p
  have:=M.ha;have:=M.hb;have:=M.far;omega
def rJ(T:Tw prog w A E s L knd a b st)(e:0<a.size)(c:0<b.size){Q:Array Keyed->SortSt->Prop}(h:∀r d,By st d->Er L a b r.toList->Q r d):wpS 'r' A E s (mhi a b) Q st:=by
 rw[rG];refine ag (wpS_lift (aW {rfl,?_}));refine ag (aF (show a.size-1<a.size by omega) ?_);have l:Mh L a b (#[a[a.size-1]]:Array Keyed).toList.reverse (a.size-1) b.size:=by
  have z:Mh L a b [] a.size b.size:={by rw[FT 'd',FT 'd',Ck],List.Pairwise.nil,λx c=>absurd c 'd',λx c=>absurd c 'd'};exact T.putA (out:=#[]) z e (Am _) T.hl
 by_cases c:(a.size-1 == 0)=true
 ·rw[if_pos c]
  have f:=T.dA (out:=#[a[a.size-1]]) l (Am _) (beq_iff_eq.mp c) By.refl;exact ak (h _ _ f.1 f.2)
 rw[if_neg c];by_cases e:(b.size == 1)=true
 ·rw[if_pos e]
  have f:=T.dF (out:=#[a[a.size-1]]) l 'o' (Am _) (beq_iff_eq.mp e) By.refl;exact ak (h _ _ f.1 f.2)
 rw[if_neg e];have g:1<b.size:=by
  have:¬b.size=1:=by simpa using e
  omega
 have g:1<a.size:=by
  have:¬a.size-1=0:=λz=>c (beq_iff_eq.mpr z)
  omega
 refine ag (wpS_get ?_);refine ag (aN (aS (I:=λx c d=>∃i g out m,c=(none,i,g,out,m)/\CN L a b st i g out d (1+x)) (Q:=λc d=>∃r z,c=(some r,z)/\Dv L a b st r d) (λx c d n e j=>?_) (λc d j=>?_) {a.size-1,b.size,#[a[a.size-1]],_,rfl,l,'o','o','o','o',By.refl,'o'}) λc d j=>?_)
 ·obtain⟨i,g,out,m,e,M⟩:=j
  subst e;unfold ID;refine ag (rE T M (λr z c f=>?_) λout i g n l c M2=>?_)
  ·exact ak {r,_,rfl,f}
  ·refine ag (wpS_lift (aW {rfl,?_}))
   refine ag (rH T M2 (λq z d f=>?_) λi g out m n l d c=>?_)
   ·exact ak {q,_,rfl,f}
   ·exact ag (eZ c.like λd l=>ak {i,g,out,_,rfl,c.m,c.ha,c.hb,c.la,c.lb,l,c.far})
 ·obtain⟨i,g,out,m,e,M⟩:=j
  have:=M.ha;have:=M.hb;have:=M.far;omega
 ·obtain⟨r,z,e,f⟩:=j
  subst e;exact ak (h _ _ f.1 f.2)
end
instance back(sa:Nat)(l:List Keyed)(xs:Array Keyed):Array Keyed:=l.zipIdx.foldl (λu (p,j)=>u.setIfInBounds (sa+j) p) xs
def rK(i:Nat):mergeAt' i=(do
 let z <-get
 let (some (sa,na,pw),some (sb,nb,_)):=((pendingOf z)[i]?,(pendingOf z)[i+1]?) | unsupported "internal:list.sort.pending"
 set (setPending z (((pendingOf z).setIfInBounds i (sa,na+nb,pw)).eraseIdxIfInBounds (i+1)))
 let some k <-Eg false (<-elem' (arrOf z) sb) (arrOf z) sa na 0 | return false
 let (sa,na):=(sa+k,na-k)
 if na == 0 then return true
 let some nb <-Eg true (<-elem' (arrOf z) (sa+na-1)) (arrOf z) sb nb (nb-1) | return false
 if nb == 0 then return true
 let x:=(arrOf z).extract sa sb
 let y:=(arrOf z).extract sb (sb+nb)
 let out <-if na<=nb then mlo x y else mhi x y
 modify λv=>setArr v (back sa out.toList (arrOf v))
 return (failedOf (<-get)).isNone):=rfl
def rL(b:Nat)(l:List Keyed)(a:Array Keyed):(back b l a).size=a.size:=by
 unfold back
 suffices h:∀(l:List (Keyed×Nat)) (a:Array Keyed),(l.foldl (λu (p,j)=>u.setIfInBounds (b+j) p) a).size=a.size from h _ _
 intro l;induction l with
 | nil=>intro a;rfl
 | cons q l ih=>intro a;rw[List.foldl_cons,ih];simp
def rM(a:Nat)(l:List Keyed)(b:Array Keyed)(h:a+l.length<=b.size)(i:Nat):(back a l b)[i]?=if a<=i/\i<a+l.length then l[i-a]? else b[i]?:=by
 unfold back
 suffices g:∀(l:List Keyed) (n:Nat) (b:Array Keyed),a+n+l.length<=b.size->((l.zipIdx n).foldl (λu (p,j)=>u.setIfInBounds (a+j) p) b)[i]?=if a+n<=i/\i<a+n+l.length then l[i-(a+n)]? else b[i]? by
  have:=g l 0 b (by simpa using h);simpa using this
 intro l;induction l with
 | nil=>intro n b _;simp;omega
 | cons q l ih=>
   intro n b h;simp only[B4] at h;rw[List.zipIdx_cons,List.foldl_cons,ih (n+1) _ (by simp;omega)];rw[Array.getElem?_setIfInBounds];by_cases c:a+n=i
   ·subst c
    rw[if_neg 'o',if_pos rfl,if_pos 'o',if_pos 'd'];simp
   ·rw[if_neg (show ¬a+n=i from c)]
    by_cases d:a+n<=i/\i<a+n+(l.length+1)
    ·rw[if_pos 'o',if_pos (by simpa using d)]
     rw[show i-(a+n)=(i-(a+(n+1)))+1 by omega];simp
    ·rw[if_neg 'o',if_neg (by simpa using d)]
def rN(b:Nat)(l:List Keyed)(a:Array Keyed)(h:b+l.length<=a.size):(back b l a).toList=a.toList.take b++(l++a.toList.drop (b+l.length)):=by
 refine GC λi=>?_
 have:=rM b l a h i;rw[<-Array.getElem?_toList] at this;have c:a.toList.length=a.size:=by simp
 rw[this,List.getElem?_append,C7,Fb 'o'];by_cases c:i<b
 ·rw[if_neg 'o',if_pos c,List.getElem?_take,if_pos c]
  simp
 ·rw[if_neg c,List.getElem?_append]
  by_cases d:i<b+l.length
  ·rw[if_pos 'o',if_pos 'o']
  ·rw[if_neg 'o',if_neg 'o',List.getElem?_drop]
   simp;congr 1;omega
section
variable{knd:SortKind}{st:SortSt}
def rO{z:SortSt}{Q:PUnit->SortSt->Prop}(h:Q ⟨⟩ z):wpS 'r' A E s (set z:SM PUnit) Q st:=by
 unfold wpS;rw[StateT.run_set];exact An ⟨rfl,h⟩
def rP{a:Array Keyed}(h:a.toList.Pairwise (le L)):Up L a 0 a.size:=λi j _ g2 g3=>by
 by_cases e:i=j
 ·subst e;exact KeyOrd.kle_refl _
 ·have g4:=Cj g2 g3
  have:=Gv.mp h i j g4 g3 (Fu g2 e);rw[aC g4,aC g3];simpa using this
def rQ{a:Array Keyed}{i k:Nat}{x:Keyed}(h:x∈(a.toList.drop i).take k):∃j,i<=j/\j<i+k/\j<a.size/\ky L x=KK L a j:=by
 obtain⟨j,b,e⟩:=List.getElem_of_mem h;rw[C7,List.length_drop,EV] at b;obtain⟨d,f⟩:=Nat.lt_min.mp b;have c:i+j<a.size:=by rw[Cm];exact Gz f
 refine{i+j,Cq i j,EB d i,c,?_};rw[aC c,<-e];simp[List.getElem_take,List.getElem_drop]
def cN{b:Array Keyed}{a c t:Nat}(e:c<=b.size)(d:a+t<c):KK L (b.extract a c) t=KK L b (a+t):=KK_congr (by rw[Array.getElem?_extract,Fb e,if_pos (Nat.lt_sub_of_add_lt (Cm a t▸d))])
def dM{c:Array Keyed}{b a:Nat}(d:a<=c.size):(c.extract b a).size=a-b:=by rw[Array.size_extract,Fb d]
def kT{b:Array Keyed}{p q:Nat}(e:q<=b.size)(u:Up L b p q){a c:Nat}(h:p<=a)(f:c<=q):Up L (b.extract a c) 0 (b.extract a c).size:=λi j _ g2 g3=>by
 have d:=Az f e;rw[dM d] at g3;have e:a+j<c:=by rw[Cm];exact Gz g3
 have g:=Di g2 a;rw[cN d (Cj g e),cN d e];exact u _ _ (Az h (Cq a i)) g (AW e f)
def kU{b:Array Keyed}(h:KeysOf L b){c d:Nat}:KeysOf L (b.extract c d):=λp a=>h p (by
 rw[Array.toList_extract,List.extract_eq_drop_take] at a;exact List.mem_of_mem_drop (GA a))
def rR{a:Array Keyed}{k n m:Nat}{l:List Keyed}(d:k<=n)(b:n<=m)(r:m<=a.size)(W:Er L (a.extract k n) (a.extract n m) l)(o:Up L a 0 n)(A:Up L a n a.size)(B:∀i,i<k->∀j,n<=j->j<a.size->L.kle (KK L a i) (KK L a j))(C:∀i,i<n->∀j,m<=j->j<a.size->L.kle (KK L a i) (KK L a j)) :
 (back k l a).Perm a/\Up L (back k l a) 0 (back k l a).size:=by
 have z:=Az b r;have e:=Az d b;have f:l.length=m-k:=by
  have c:(a.extract k n).toList.length=n-k:=dM z;have g:(a.extract n m).toList.length=m-n:=dM r;rw[W.1.length_eq,A8,c,g,Cm,Nat.sub_add_sub_cancel b d]
 have c:k+(m-k)=m:=Fq e;have bl:=rN k l a (by rw[f,c];exact r);rw[f,c] at bl;have e:(a.extract k n).toList++(a.extract n m).toList=(a.toList.drop k).take (m-k):=by
  rw[bj z,bj r,<-Nat.sub_add_sub_cancel b d,Cm (m-n),List.take_add,List.drop_drop,Fq d]
 have y:=W.1;rw[e] at y;have top:∀{i j},i<=j->j<n->L.kle (KK L a i) (KK L a j):=λh g=>o _ _ (AE _) h g
 refine{?_,rP ?_}
 ·rw[Array.perm_iff_toList_perm,bl]
  have:a.toList=a.toList.take k++((a.toList.drop k).take (m-k)++a.toList.drop m):=by
   conv=>rhs;rw[<-c,<-List.drop_drop,Hb,List.take_append_drop,List.take_append_drop]
  refine List.Perm.trans (List.Perm.append_left _ (List.Perm.append_right _ y)) ?_;rw[<-this]
 ·rw[bl]
  have g:∀{p q:Nat},q<=a.size->Up L a p q->((a.toList.drop p).take (q-p)).Pairwise (le L):=λ{p q} f u=>by
   rw[Gv];intro i j v o e;have s:∀{i},i<((a.toList.drop p).take (q-p)).length->p+i<q:=λh=>by
    rw[C7] at h;rw[Cm];exact Gz (AW h (Nat.min_le_left _ _))
   have:=u (p+i) (p+j) (Cq p i) (Di (BC e) p) (s o);rw[aC (AW (s v) f),aC (AW (s o) f)] at this;simpa [List.getElem_drop,List.getElem_take] using this
  have u:∀x∈l,∃j,k<=j/\j<m/\ky L x=KK L a j:=λx h=>by
   obtain⟨j,f,s,_,e⟩:=rQ (L:=L) (y.mem_iff.mp h);exact{j,f,c▸s,e}
  refine Ez.mpr {?_,Ez.mpr {W.2,?_,λx h y c=>?_},λx h y c=>?_}
  ·exact g (p:=0) (q:=k) (Az d z) (λi j g1 g2 g3=>top g2 (AW g3 d))
  ·have:=g (p:=m) (q:=a.size) (Am _) (λi j g1 g2 g3=>A i j (Az b g1) g2 g3)
   rwa [FT 'd'] at this
  ·obtain⟨i,f,s,e⟩:=u x h
   obtain⟨j,d,g,l⟩:=cL (L:=L) c;show L.kle (ky L x) (ky L y);rw[e,l];by_cases v:i<n
   ·exact C i v j d g
   ·exact A i j (ED v) (BC (AW s d)) g
  ·obtain⟨i,f,s,e⟩:=dJ (L:=L) h
   show L.kle (ky L x) (ky L y);rw[e];rcases BP.mp c with c | c
   ·obtain⟨j,d,g,l⟩:=u y c
    rw[l];by_cases o:j<n
    ·exact top (BC (AW f d)) o
    ·exact B i f j (ED o) (AW g r)
   ·obtain⟨j,d,g,l⟩:=cL (L:=L) c
    rw[l];exact B i f j (Az b d) g
def kW{a:Array Keyed}{n:Nat}(f:0<n)(b:n<a.size)(c:Up L a 0 n)(d:Up L a n a.size)(h:L.kle (KK L a (n-1)) (KK L a n)):Up L a 0 a.size:=λi j g1 g2 g3=>by
 by_cases b:j<n
 ·exact c i j g1 g2 b
 ·by_cases e:n<=i
  ·exact d i j e g2 g3
  ·exact KeyOrd.kle_trans (c i (n-1) g1 (Nat.le_sub_one_of_lt (Nat.lt_of_not_le e)) (Nat.sub_lt f Nat.one_pos)) (KeyOrd.kle_trans h (d n j (Am _) (ED b) g3))
def rS(C:Dl prog w A E s L knd)(a:KeysOf L a₀){base n j:Nat}(b:Up L a₀ base (base+n))(d:base+n<=a₀.size)(c:j<a₀.size):Cut prog w A E s knd false a₀[j] a₀ base n (λi=>!L.blt (KK L a₀ j) (KK L a₀ (base+i))) where
 far:=λi st Q e d h=>by
  unfold far;refine ag (aF 'o' ?_);show wpS _ _ _ _ (lt' a₀[j] a₀[base+i] >>= λx=>pure (x.map (!·))) Q st;exact ag (cM C d a a c 'o' (ak h))
 mono:=λi k a c h=>by
  have h:L.blt (KK L a₀ j) (KK L a₀ (base+k))=false:=by simpa using h
  have:=KeyOrd.kle_trans (b (base+i) (base+k) 'o' 'o' 'o') h;have:L.blt (KK L a₀ j) (KK L a₀ (base+i))=false:=this;simp[this]
def rT(C:Dl prog w A E s L knd)(a:KeysOf L a₀){base n i:Nat}(c:Up L a₀ base (base+n))(b:base+n<=a₀.size)(e:i<a₀.size):Cut prog w A E s knd true a₀[i] a₀ base n (λk=>L.blt (KK L a₀ (base+k)) (KK L a₀ i)) where
 far:=λk st Q d b h=>by
  unfold far;refine ag (aF 'o' ?_);show wpS _ _ _ _ (lt' a₀[base+k] a₀[i]) Q st;exact cM C b a a 'o' e h
 mono:=λp q a b h=>KeyOrd.klt_of_kle_of_klt (c (base+p) (base+q) 'o' 'o' 'o') h
def rV{a:Array Keyed}(h:KeysOf L a₀)(p:a.Perm a₀):KeysOf L a:=λq b=>h q ((Array.perm_iff_toList_perm.mp p).mem_iff.mp b)
def rW(C:Dl prog w A E s L knd)(m:KeysOf L a₀){a d e:Nat}(B:Bs a₀ knd #[(0,a,e),(a,d,0)] st)(j:0<a)(l:0<d)(p:a+d=a₀.size)(q:Up L (arrOf st) 0 a)(f:Up L (arrOf st) a a₀.size){Q:Bool->SortSt->Prop}(h:∀b,Bs a₀ knd #[(0,a+d,e)] b->Up L (arrOf b) 0 a₀.size->Q true b):wpS 'r' A E s (mergeAt' 0) Q st:=by
 rw[rK];refine ag (wpS_get ?_);have i:(pendingOf st)[0]?=some (0,a,e):=by rw[B.pend];rfl
 have c:(pendingOf st)[0+1]?=some (a,d,0):=by rw[B.pend];rfl
 have g:∀z:Nat×Nat×Nat,((pendingOf st).setIfInBounds 0 z).eraseIdxIfInBounds (0+1)=#[z]:=λz=>by rw[B.pend];simp[Array.eraseIdxIfInBounds]
 rw[i,c];dsimp only;rw[g];refine ag (rO ?_);have G:=B.size;have I:=rV m B.perm;have c:Up L (arrOf st) a (arrOf st).size:=by rw[G];exact f
 have o:Bs a₀ knd #[(0,a+d,e)] (setPending st #[(0,a+d,e)]):=⟨B.perm,B.kind,B.fail,rfl⟩;generalize f:setPending st #[(0,a+d,e)]=st1 at o;have g:arrOf st1=arrOf st:=by rw[<-f]
 rw[<-g] at G I q c ⊢;have fin:Up L (arrOf st1) 0 (arrOf st1).size->Q true st1:=λu=>h st1 o (by rw[<-G];exact u)
 generalize x:arrOf st1=xs at *;have v:a+d=xs.size:=p.trans G.symm;have r:a<xs.size:=v▸Nat.lt_add_of_pos_right l;have N:a-1<a:=Nat.sub_lt j Nat.one_pos;have u:=BC r;refine ag (aF r (ag (cK (rS C I (base:=0) (n:=a) (by simpa using q) (by rw[Ay];exact u) r) o.kind j λk P e g=>?_)));dsimp only;simp only[Ay] at e g ⊢;have e:∀i,i<k->L.kle (KK L xs i) (KK L xs a):=λi y=>(show L.blt (KK L xs a) (KK L xs i)=false by simpa using e i y)
 have g:∀i,k<=i->i<a->L.blt (KK L xs a) (KK L xs i)=true:=λi m p=>by simpa using g i m p
 by_cases f:a-k=0
 ·rw[if_pos (beq_iff_eq.mpr f)]
  exact ak (fin (kW j r q c (e _ (AW N (Nat.le_of_sub_eq_zero f)))))
 rw[if_neg (λz=>f (beq_iff_eq.mp z))];have p:0<a-k:=Nat.pos_of_ne_zero f;rw[show k+(a-k)-1=a-1 by rw[Fq P]];have J:k+(a-k-1)=a-1:=by rw[<-Nat.add_sub_assoc p,Fq P]
 have f:=Nat.lt_trans N r;refine ag (aF f (ag (cK (rT C I (base:=a) (n:=d) (by rw[v];exact c) (BY v) f) o.kind (Nat.sub_lt l Nat.one_pos) λm O B d=>?_)));dsimp only;by_cases f:m=0
 ·rw[if_pos (beq_iff_eq.mpr f)]
  exact ak (fin (kW j r q c (d 0 (BY f) l)))
 rw[if_neg (λz=>f (beq_iff_eq.mp z))];have d:∀j,a+m<=j->j<xs.size->L.kle (KK L xs (a-1)) (KK L xs j):=λj g1 g2=>by
  obtain⟨t,rfl⟩:=Nat.le.dest (Az (Cq a m) g1);exact d t (Nat.le_of_add_le_add_left g1) (Nat.lt_of_add_lt_add_left (v▸g2))
 have M:a+m<=xs.size:=v▸Di O a;have z:(xs.extract k a).size=a-k:=dM u;have R:(xs.extract a (a+m)).size=m:=by rw[dM M,Hb]
 have O:=Nat.pos_of_ne_zero f;have r:a+0<a+m:=EB O a;have l:∀{j},j<a-k->k+j<a:=λh=>by rw[Cm];exact Gz h
 have T:Tw prog w A E s L knd (xs.extract k a) (xs.extract a (a+m)) st1:=by
  refine{{C,kU I,kU I,kT u q (AE _) (Am _),kT (Am _) c (Am _) M,λj f=>?_,o.kind},λj f=>?_}
  ·rw[R] at f
   rw[z,cN u (by rw[J];exact N),cN M (EB f a),J];exact KeyOrd.kle_of_klt (B j f)
  ·rw[z] at f
   rw[cN M r,cN u (l f)];exact KeyOrd.kle_of_klt (g _ (Cq k j) (l f))
 have g:∀(r:Array Keyed) (b:SortSt),By st1 b->Er L (xs.extract k a) (xs.extract a (a+m)) r.toList->wpS 'r' A E s (do
  modify λv=>setArr v (back k r.toList (arrOf v))
  return (failedOf (<-get)).isNone) Q b:=λr b l W=>by
  have J:=rR P (Cq a m) M W q c (λi y j g1 g2=>KeyOrd.kle_trans (e i y) (c a j (Am _) g1 g2)) (λi y j g1 g2=>KeyOrd.kle_trans (q i (a-1) (AE _) (Nat.le_sub_one_of_lt y) N) (d j g1 g2));refine ag (bf (ag (wpS_get ?_)));have d:failedOf b=none:=l.fail.trans o.fail;have c:arrOf b=xs:=l.arr.trans x;have e:(failedOf (setArr b (back k r.toList (arrOf b)))).isNone=true:=by show (failedOf b).isNone=true;rw[d];rfl
  rw[e];refine ak (h _ {?_,l.kind.trans o.kind,d,l.pend.trans o.pend} ?_)
  ·show (back k r.toList (arrOf b)).Perm a₀
   rw[c];have:=o.perm;rw[x] at this;exact J.1.trans this
  ·show Up L (back k r.toList (arrOf b)) 0 a₀.size
   rw[c];have:=J.2;rwa [rL,G] at this
 by_cases b:a-k<=m
 ·rw[if_pos b]
  refine ag (rB T.toTwo (z▸p) (Nat.lt_of_lt_of_eq O R.symm) (T.hf 0 (z▸p)) g)
 ·rw[if_neg b]
  refine ag (rJ T (z▸p) (Nat.lt_of_lt_of_eq O R.symm) g)
def rX{n:Nat}(a:2<=n)(h:n<128):∃m,minRun' n n 0=m/\1<=m/\m<=n/\n<=2*m:=by
 obtain⟨f,rfl⟩:∃f,n=f+1+1:={n-2,'o'};rw[minRun'_succ];by_cases a:f+1+1<64
 ·rw[if_pos a]
  exact{_,rfl,'o','o','o'}
 ·rw[if_neg a,minRun'_succ,if_pos 'o']
  exact{_,rfl,'o','o','o'}
def kX{b d:Array Keyed}{a c i:Nat}(o:BF b d a c)(h:i<a\/c<=i):KK L d i=KK L b i:=KK_congr (o i h)
def Up.out{c a:Array Keyed}{b d n:Nat}(u:Up L c 0 n)(o:BF c a b d)(h:n<=b):Up L a 0 n:=λi j g1 g2 g3=>by
 rw[kX o (.inl 'o'),kX o (.inl 'o')];exact u i j g1 g2 g3
def IE(L:KeyKind)(a₀:Array Keyed)(knd:SortKind)(m x lo:Nat)(st:SortSt):Prop:=
 (x=0/\lo=0/\Bs a₀ knd #[] st)\/
 (x=1/\lo<a₀.size/\m<=lo/\Bs a₀ knd #[(0,lo,0)] st/\Up L (arrOf st) 0 lo)\/
 (1<=x/\lo=a₀.size/\∃pw,Bs a₀ knd #[(0,a₀.size,pw)] st/\Up L (arrOf st) 0 a₀.size)\/
 (2<=x/\lo=a₀.size/\∃n1 n2 pw,0<n1/\0<n2/\n1+n2=a₀.size/\Bs a₀ knd #[(0,n1,pw),(n1,n2,0)] st/\Up L (arrOf st) 0 n1/\Up L (arrOf st) n1 a₀.size)
instance Dp(L:KeyKind)(a₀:Array Keyed)(knd:SortKind)(st:SortSt):Prop:=
 (∃pw,Bs a₀ knd #[(0,a₀.size,pw)] st/\Up L (arrOf st) 0 a₀.size)\/
 ∃n1 n2 pw,0<n1/\0<n2/\n1+n2=a₀.size/\Bs a₀ knd #[(0,n1,pw),(n1,n2,0)] st/\Up L (arrOf st) 0 n1/\Up L (arrOf st) n1 a₀.size
def Bs.push{P:Array (Nat×Nat×Nat)}(B:Bs a₀ knd P st)(z:Nat×Nat×Nat):Bs a₀ knd (P.push z) (setPending st ((pendingOf st).push z)):={B.perm,B.kind,B.fail,by show (pendingOf st).push z=_;rw[B.pend]}
def kY{m n:Nat}(B:Bs a₀ knd #[] st)(b:m<=n)(c:1<=m)(a:n<=a₀.size)(u:Up L (arrOf st) 0 (0+n)):IE L a₀ knd m (0+1) (0+n) (setPending st ((pendingOf st).push (0,n,0))):=by
 have a:=B.push (0,n,0);simp only[Ay] at u ⊢;by_cases c:n=a₀.size
 ·subst c
  exact .inr (.inr (.inl {'o',rfl,0,a,u}))
 ·exact .inr (.inl {rfl,'o',b,a,u})
def rY(C:Dl prog w A E s L knd)(u:KeysOf L a₀)(B:Bs a₀ knd #[] st)(d:2<=a₀.size)(a:a₀.size<128){Q:Unit->SortSt->Prop}(h:∀e,(arrOf e).Perm a₀->failedOf e=none->Up L (arrOf e) 0 a₀.size->Q () e):wpS 'r' A E s sortRuns' Q st:=by
 rw[sortRuns'_eq];refine ag (wpS_get ?_);dsimp only;obtain⟨m,c,b,f,g⟩:=rX d a;simp only[B.size,c];refine ag (aN (aS (I:=λx c e=>∃d,c=(none,d)/\IE L a₀ knd m x d e) (Q:=λc e=>∃d,c=(none,d)/\Dp L a₀ knd e) ?step ?fin {0,rfl,.inl ⟨rfl,rfl,B⟩}) ?post);case fin=>
  rintro c e ⟨d,rfl,R⟩;rcases R with⟨E,_,_⟩ | ⟨E,_,_⟩ | ⟨_,_,R⟩ | ⟨_,_,R⟩
  ·omega
  ·omega
  ·exact{d,rfl,.inl R}
  ·exact{d,rfl,.inr R}
 case step=>
  rintro x c e _ E ⟨d,rfl,R⟩;dsimp only;rcases R with⟨rfl,rfl,r⟩ | ⟨rfl,g,a,r,z⟩ | ⟨_,rfl,R⟩ | ⟨_,rfl,R⟩
  ·rw[if_neg 'o']
   refine ag (kC C u r 'o' 'o' λn a i y l v o=>?_);dsimp only;by_cases j:n<m
   ·rw[if_pos j]
    refine ag (wpS_lift (aW {rfl,?_}));rw[Nat.sub_zero,Nat.min_eq_right f];refine ag (kF C u i 'o' 'o' v λg p G J=>?_);simp only[Fy,Dw,if_false];refine ag (wpS_get ?_);have q:(pendingOf g).back?=none:=by rw[p.pend];rfl
    rw[q];dsimp only;exact ag (bf (ak {_,rfl,kY p (Am _) b f G}))
   ·rw[if_neg j]
    refine ag (wpS_get ?_);have q:(pendingOf a).back?=none:=by rw[i.pend];rfl
    rw[q];dsimp only;exact ag (bf (ak {_,rfl,kY i 'o' b 'o' v}))
  ·rw[if_neg 'o']
   have s:∀(a:SortSt) (n:Nat),n=a₀.size-d->Bs a₀ knd #[(0,d,0)] a->Up L (arrOf a) d (d+n)->Up L (arrOf a) 0 d->∀f,IE L a₀ knd m (1+1) (d+n) (setPending (setPending a ((pendingOf a).modify ((pendingOf a).size-1) λ(st,b,_)=>(st,b,f))) ((pendingOf (setPending a ((pendingOf a).modify ((pendingOf a).size-1) λ(st,b,_)=>(st,b,f)))).push (d,n,0))):=λa n b i A z f=>by
    subst b;rw[show d+(a₀.size-d)=a₀.size by omega] at A ⊢;refine .inr (.inr (.inr {'o',rfl,d,a₀.size-d,f,'o','o','o',{i.perm,i.kind,i.fail,?_},z,A}));show ((pendingOf a).modify ((pendingOf a).size-1) _).push _=_;rw[i.pend];rfl
   have b:∀(a:SortSt) (n f:Nat) (b:ForInStep (Option Unit×Nat)->SortSt->Prop),Bs a₀ knd #[(0,d,0)] a->True:=λ_ _ _ _ _=>trivial
   refine ag (kC C u r 'o' 'o' λn a i y l v o=>?_);have r:=z.out o (Am _);dsimp only;by_cases j:n<m
   ·rw[if_pos j]
    refine ag (wpS_lift (aW {rfl,?_}));rw[Fb (show a₀.size-d<=m by omega)];refine ag (kF C u i 'o' 'o' v λg p G J=>?_);have o:=r.out J (Am _);simp only[Fy,Dw,if_false];refine ag (wpS_get ?_);have q:(pendingOf g).back?=some (0,d,0):=by rw[p.pend];rfl
    rw[q];dsimp only;refine ag (aN (aS (I:=λ_ c b=>c=(none,())/\b=g) (Q:=λc b=>c=(none,())/\b=g) (λy c b J N l=>?_) (λc b l=>l) ⟨rfl,rfl⟩) λc b l=>?_)
    ·obtain⟨m,n⟩:=l
     subst m;rw[n];refine ag (wpS_get ?_);have M:(pendingOf g).size=1:=by rw[p.pend];rfl
     rw[if_neg (show ¬(pendingOf g).size>1 by omega)];exact ak ⟨rfl,rfl⟩
    ·obtain⟨m,n⟩:=l
     subst m n;dsimp only;exact ag (bf (ag (bf (ak {_,rfl,s _ _ rfl p G o _}))))
   ·rw[if_neg j]
    refine ag (wpS_get ?_);have q:(pendingOf a).back?=some (0,d,0):=by rw[i.pend];rfl
    rw[q];dsimp only;refine ag (aN (aS (I:=λ_ c b=>c=(none,())/\b=a) (Q:=λc b=>c=(none,())/\b=a) (λy c b J N l=>?_) (λc b l=>l) ⟨rfl,rfl⟩) λc b l=>?_)
    ·obtain⟨m,n⟩:=l
     subst m;rw[n];refine ag (wpS_get ?_);have M:(pendingOf a).size=1:=by rw[i.pend];rfl
     rw[if_neg (show ¬(pendingOf a).size>1 by omega)];exact ak ⟨rfl,rfl⟩
    ·obtain⟨m,n⟩:=l
     subst m n;dsimp only;exact ag (bf (ag (bf (ak {_,rfl,s _ _ 'o' i v r _}))))
  ·rw[if_pos (Am _)]
   exact ak {_,rfl,.inl R}
  ·rw[if_pos (Am _)]
   exact ak {_,rfl,.inr R}
 case post=>
  rintro c e ⟨d,rfl,R⟩;dsimp only;refine ag (aN (aS (I:=λx c a=>c=(none,())/\((x=0/\Dp L a₀ knd a)\/∃f,Bs a₀ knd #[(0,a₀.size,f)] a/\Up L (arrOf a) 0 a₀.size)) (Q:=λc a=>c=(none,())/\∃f,Bs a₀ knd #[(0,a₀.size,f)] a/\Up L (arrOf a) 0 a₀.size) ?_ ?_ {rfl,.inl ⟨rfl,R⟩}) ?_)
  ·rintro x c a _ _ ⟨rfl,R⟩
   refine ag (wpS_get ?_);have d:(∃f,Bs a₀ knd #[(0,a₀.size,f)] a/\Up L (arrOf a) 0 a₀.size)->(pendingOf a).size=1:=λ⟨f,B,_⟩=>by rw[B.pend];rfl
   rcases R with⟨_,R | ⟨g,e,f,g1,g2,g3,p,z,A⟩⟩ | R
   ·rw[if_pos (by rw[d R];exact Am 1)]
    exact ak ⟨rfl,R⟩
   ·have M:(pendingOf a).size=2:=by rw[p.pend];rfl
    rw[if_neg 'o',M];show wpS _ _ _ _ (mergeAt' 0 >>= _) _ _;refine ag (rW C u p g1 g2 g3 z A λb e g=>?_);rw[g3] at e;exact ak {rfl,.inr ⟨f,e,g⟩}
   ·rw[if_pos (by rw[d R];exact Am 1)]
    exact ak ⟨rfl,R⟩
  ·rintro c a ⟨rfl,R⟩
   rcases R with⟨E,_⟩ | R
   ·omega
   ·exact⟨rfl,R⟩
  ·rintro c a ⟨rfl,f,B,u⟩
   exact ak (h _ B.perm B.fail u)
end
open PySem PyProof PyProof.Rows
def JQ(h:Heap):Value->Option (Int×Int)
 | .ref a=>match h.get? a with
   | some o=>match o.data with
     | .seq xs _=>match xs.toList with
       | [.int x _,.int y _]=>some (x,y)
       | _=>none
     | _=>none
   | none=>none
 | _=>none
def Bg(h:Heap)(v:Value)(p:Int×Int):Prop:=∃a o n t u,v=.ref a/\h.get? a=some o/\o.cls=.type "tuple"/\o.data=.seq #[.int p.1 t,.int p.2 u] n
def Bg.key{h:Heap}{v:Value}{p:Int×Int}(z:Bg h v p):JQ h v=some p:=by
 obtain⟨a,o,n,t,u,rfl,g,_,d⟩:=z;simp[JQ,g,d]
instance lx(a b:Int×Int):Bool:=decide (a.1<b.1\/a.1=b.1/\a.2<b.2)
def gI{a b:Int×Int}:lx a b=true↔(a.1<b.1\/a.1=b.1/\a.2<b.2):=decide_eq_true_iff
def cu{a b:Int×Int}:lx a b=false↔¬(a.1<b.1\/a.1=b.1/\a.2<b.2):=decide_eq_false_iff_not
def gJ(a:Int×Int):lx a a=false:=cu.mpr λh=>h.elim (Int.lt_irrefl _) λz=>Int.lt_irrefl _ z.2
def gK(d:lx a b=true)(e:lx b c=true):lx a c=true:=gI.mpr (match gI.mp d,gI.mp e with
 | .inl p,.inl q=>.inl (Int.lt_trans p q)
 | .inl p,.inr q=>.inl (q.1▸p)
 | .inr p,.inl q=>.inl (p.1▸q)
 | .inr p,.inr q=>.inr {p.1.trans q.1,Int.lt_trans p.2 q.2})
def e0(d:lx a b=false)(c:lx b a=false):a=b:=
 have e:a.1=b.1:=Int.le_antisymm (Int.not_lt.mp λz=>cu.mp c (.inl z)) (Int.not_lt.mp λz=>cu.mp d (.inl z))
 Prod.ext e (Int.le_antisymm (Int.not_lt.mp λz=>cu.mp c (.inr ⟨e.symm,z⟩)) (Int.not_lt.mp λz=>cu.mp d (.inr ⟨e,z⟩)))
def kZ(b:Int×Int)(h:lx a c=true):lx a b=true\/lx b c=true:=
 match e:lx a b with
 | true=>.inl rfl
 | false=>match e':lx b a with
   | true=>.inr (gK e' h)
   | false=>.inr (e0 e e'▸h)
section
variable{prog:Program}{w:World}{A:Around}{E:Value->Shared->Prop}{s:Shared}
def rZ{x y:Int}{t u:Tok}{Q:Bool->Shared->Prop}(h:Q (decide (x<y)) s):wpAny 'r' A (oneLt' false (.int x t) (.int y u)) Q E s:=by
 rw[oneLt'_eq];simp only[Dw,if_false];refine Ac (wpAny_richCompare_same (id:="int.__lt__") (typeIs_int s x t) (typeIs_int s y u) slot_int_lt (call_int_lt {'d',?_}));exact D6 h
end
def D0(a b:Int×Int):Prop:=a.1<b.1\/a.1=b.1/\a.2<=b.2
def r5{a b:Int×Int}(h:lx b a=false):D0 a b:=
 have n:=cu.mp h
 match Int.lt_trichotomy a.1 b.1 with
 | .inl p=>.inl p
 | .inr (.inl e)=>.inr {e,Int.not_lt.mp λz=>n (.inr ⟨e.symm,z⟩)}
 | .inr (.inr p)=>absurd (.inl p) n
section
variable{prog:Program}{w:World}{A:Around}{E:Value->Shared->Prop}{s:Shared}
abbrev Eh(h:Heap)(a:Addr)(vs:List Value):Heap:=((h.update a (Obj.mapSeq λ_=>#[])).push (seqObj "tuple" vs.toArray 0)).push (seqObj "list" #[] 0)
def r6{h:Heap}{a b:Addr}{o:Obj}{c:List Value}(g:h.get? b=some o)(d:b≠a):(Eh h a c).get? b=some o:=by
 have a:=Heap.lt_size g;unfold Eh;rw[GD _ _ _ (by rw[size_push',Heap.size_update];exact Bk (Nat.lt_succ_of_lt a)),GD _ _ _ (by rw[Heap.size_update];exact Bk a),Heap.get?_update_ne _ _ _ _ d];exact g
end
end Ts
namespace L2
open PySem PySem.Spec PyProof PyProof.Rows Ts
def r7{α β:Type}{F:α->β->Prop}{d c:List β}(p:c.Perm d):∀{a:List α},Paired F a d->∃b,b.Perm a/\Paired F b c:=by
 induction p with
 | nil=>intro a h;exact{a,.refl _,h}
 | cons x _ ih=>
   intro a h;cases h with
   | cons c d=>
     obtain⟨b,p',e⟩:=ih d;exact{_,p'.cons _,.cons c e}
 | swap x y l=>
   intro a h;cases h with
   | cons c d=>cases d with
     | cons b e=>exact{_,List.Perm.swap ..,.cons b (.cons c e)}
 | trans _ _ b e=>
   intro a h;obtain⟨f,g,c⟩:=e h;obtain⟨a,f,d⟩:=b c;exact{a,f.trans g,d}
abbrev P2:=Int×Int
instance lxB(a b:P2):Bool:=decide (a.1<b.1\/a.1=b.1/\a.2<=b.2)
def Gg(a:P2):List P2->List P2
 | []=>[a]
 | b::l=>if lxB a b then a::b::l else b::Gg a l
def CH(l:List P2):List P2:=l.foldr Gg []
theorem gL(a:P2):∀l,(Gg a l).Perm (a::l)
 | []=>.refl _
 | b::l=>by
   unfold Gg;split
   ·exact .refl _
   ·exact((gL a l).cons b).trans (List.Perm.swap ..)
theorem gM:∀l,(CH l).Perm l
 | []=>.refl _
 | a::l=>(gL a (CH l)).trans ((gM l).cons a)
def r8(d:D0 a b)(e:D0 b c):D0 a c:=match d,e with
 | .inl p,.inl q=>.inl (Int.lt_trans p q)
 | .inl p,.inr q=>.inl (q.1▸p)
 | .inr p,.inl q=>.inl (p.1▸q)
 | .inr p,.inr q=>.inr {p.1.trans q.1,Int.le_trans p.2 q.2}
def r9(c:D0 a b)(d:D0 b a):a=b:=match c,d with
 | .inl p,.inl q=>absurd q (Int.lt_asymm p)
 | .inl p,.inr q=>absurd (q.1▸p) (Int.lt_irrefl _)
 | .inr p,.inl q=>absurd (p.1▸q) (Int.lt_irrefl _)
 | .inr p,.inr q=>Prod.ext p.1 (Int.le_antisymm p.2 q.2)
open H in
theorem k6(a:P2):∀l,l.Pairwise D0->(Gg a l).Pairwise D0
 | [],_=>Hc _ _
 | b::l,h=>by
   have d:=Ea.mp h;unfold Gg;split
   ·rename_i q
    have q:D0 a b:=(of_decide_eq_true q:a.1<b.1\/a.1=b.1/\a.2<=b.2);refine Ea.mpr {λx c=>?_,h};rcases AK.mp c with rfl | c
    ·exact q
    ·exact r8 q (d.1 x c)
   ·rename_i q
    have q:D0 b a:=by
     have:¬(a.1<b.1\/a.1=b.1/\a.2<=b.2):=λz=>q (az z)
     exact match Int.lt_trichotomy b.1 a.1 with
      | .inl p=>.inl p
      | .inr (.inl e)=>.inr {e,Int.le_of_lt (Int.not_le.mp λz=>this (.inr ⟨e.symm,z⟩))}
      | .inr (.inr p)=>absurd (.inl p) this
    refine Ea.mpr {λx c=>?_,k6 a l d.2};rcases AK.mp ((gL a l).mem_iff.mp c) with rfl | c
    ·exact q
    ·exact d.1 x c
theorem k7:∀l,(CH l).Pairwise D0
 | []=>List.Pairwise.nil
 | a::l=>k6 a _ (k7 l)
def sd(p:m.Perm l)(u:m.Pairwise D0):m=CH l:=
 (p.trans (gM l).symm).eq_of_pairwise (λa b _ _ c d=>r9 c d) u (k7 l)
abbrev PrV(H:Hp):List V->List P2->Prop:=Paired λv p=>∃b,v=.ref b/\H b=some (.tup [.int p.1,.int p.2])
section
variable{X:Cx}{S:Type}{W:Wd S}{c:Dx W}{g ga gb gc:Gr}{a b:Expr}{fa fb fc:Fn S}{pos p2:Pos}
abbrev CW(p:P2):D:=.tup [.int p.1,.int p.2]
def DL:List D->Option (List P2)
 | []=>some []
 | .tup [.int x,.int y]::l=>(DL l).map λr=>(x,y)::r
 | _=>none
theorem gO:∀d:List P2,DL (d.map CW)=some d
 | []=>rfl
 | p::d=>by rw[BX];unfold DL;rw[gO d];rfl
open H in
theorem gP{K:FG}{A:Addr->Prop}{H:Hp}:∀{l:List D} {f:List V} {i:List P2},DL l=some i->aa K A H l f->PrV H f i
 | [],f,i,e,h=>by cases e;rw[aa.nil.mp h];exact .nil
 | d::l,f,i,e,h=>by
   obtain⟨v,r,o,n,p⟩:=aa.cons.mp h;unfold DL at e;split at e
   ·rename_i d;cases d
   ·rename_i x y m d
    cases d;cases q:DL l with
    | none=>rw[q] at e;cases e
    | some d=>
      rw[q] at e;cases e;obtain⟨b,d,r,s,j⟩:=Is.tup_iff.mp n;obtain⟨d,m,h,l,i⟩:=aa.cons.mp j;obtain⟨u,v,d,m,n⟩:=aa.cons.mp i;rw[Is.int_iff.mp l] at h;rw[Is.int_iff.mp m,aa.nil.mp n] at d;rw[o];refine .cons {b,r,?_} (gP q p);rw[s,h,d]
   ·cases e
theorem gQ{K:FG}{A:Addr->Prop}{H:Hp}:∀{e:List P2} {d:List V},PrV H d e->aa K A H (e.map CW) d
 | _,_,.nil=>aa.nil.mpr rfl
 | _,_,.cons h t=>aa.cons.mpr {_,_,rfl,by
   obtain⟨b,e,f⟩:=h;rw[e];exact Is.tup f (aa.cons.mpr {_,_,rfl,Is.int_iff.mpr rfl,aa.cons.mpr {_,_,rfl,Is.int_iff.mpr rfl,aa.nil.mpr rfl}}),gQ t}
theorem gR:∀d:List P2,D.immL (d.map CW)=true
 | []=>rfl
 | n::ns=>by simp[D.immL,D.imm,gR ns]
def HD:List D->Option D
 | [.lst l]=>(DL l).bind λps=>if ps.length<128 then some (.lst ((CH ps).map CW)) else none
 | _=>none
open H in
def wZ{K:FG}(e:c.K=K):Ct c (λs H Q=>∃(a:Addr) (i:List V) (h:List P2),s=[.ref a]/\AV K H a i/\PrV H i h/\h.length<128/\∀p f,H p=none->PrV H f (CH h)->Q (.ref p) (Ad H p (.lst f))) HD:=by
 subst e;intro l i H j d Q o z e q;unfold HD at e;split at e
 ·rename_i m
  cases j:DL m with
  | none=>rw[j] at e;cases e
  | some h=>
    rw[j] at e;have e:(if h.length<128 then some (D.lst ((CH h).map CW)) else none)=some d:=e;split at e
    ·rename_i d
     cases e;obtain⟨v,r,l,m,u⟩:=aa.cons.mp z;obtain⟨a,us,v,_,r,n⟩:=Is.lst_iff.mp m;rw[aa.nil.mp u,v] at l;exact{a,us,h,l,.of r,gP j n,d,λp f h w=>q _ _ (Af.laid h) (aJ o h) (AB.lst o h (λ_ n=>n) (gR _) (gQ (A:=λb=>¬W.mv b) w))}
    ·cases e
 ·cases e
end
end L2
namespace HT
open PySem PyProof PyProof.Rows
end HT
namespace L2
open PySem PySem.Spec PyProof PyProof.Rows
section
variable{X:Cx}{S:Type}{W:Wd S}{c:Dx W}{g ga gb gc:Gr}{a b:Expr}{fa fb fc:Fn S}{pos p2:Pos}
end
end L2
namespace HT
open PySem PyProof PyProof.Rows Ts
section
variable{prog:Program}{w:World}{A:Around}{R:Result->Shared->Prop}{I:Addr}{fp wr:List Addr}{n:Nat}{P:Nat->Value->Prop}{St:Nat->Heap->Prop}{base:Heap}{E:Value->Shared->Prop}{s:Shared}
def se(a b:Int×Int):CS [a.1,a.2] [b.1,b.2]=lx a b:=by
 unfold lx;by_cases d:a.1<b.1
 ·simp[CS,d];omega
 ·by_cases c:a.1=b.1
  ·simp[CS,c];omega
  ·simp[CS,d,c]
def Bg.tup{h:Heap}{v:Value}{p:Int×Int}(z:Bg h v p):∃a b,v=.ref a/\IsTup h a b/\IntsAre b.toList [p.1,p.2]:=by
 obtain⟨a,o,n,t,u,rfl,g,c,d⟩:=z;exact{a,_,rfl,⟨o,g,c,n,d⟩,.cons _ _ (.cons _ _ .nil)}
def lt_two(c:A.units<cLine)(x:Bg s.heap u p)(y:Bg s.heap v q)(h:Q (.bool (lx p q)) s):wpAny 'r' A (richCompare .Lt u v) Q E s:=by
 obtain⟨a,b,rfl,d,e⟩:=Bg.tup x;obtain⟨b,f,rfl,tb,a⟩:=Bg.tup y;rw[<-se] at h;exact n5 d tb e a c h
end
end HT
namespace L2
open PySem PySem.Spec PyProof PyProof.Rows Ts
section
variable{X:Cx}{S:Type}{W:Wd S}{c:Dx W}{g ga gb gc:Gr}{a b:Expr}{fa fb fc:Fn S}{pos p2:Pos}
end
def g0{α:Type}{a:α}{l:List α}:(a::l)[0]?=some a:=rfl
def gS{α:Type}{a:α}{l:List α}{i:Nat}:(a::l)[i+1]?=l[i]?:=rfl
def s0{α:Type}{a b:α}{l:List α}:(a::l).set 0 b=b::l:=rfl
def sS{α:Type}{a b:α}{l:List α}{i:Nat}:(a::l).set (i+1) b=a::l.set i b:=rfl
def lC{α:Type}{a:α}{l:List α}:(a::l).length=l.length+1:=rfl
def lN{α:Type}:([]:List α).length=0:=rfl
def rl1_{α:Type}{i:Nat}:([]:List α)[i]?=none:=rfl
def rl2_{α β:Type}{f:α->β}{a:α}{l:List α}:(a::l).map f=f a::l.map f:=rfl
def rl3_{α β:Type}{f:α->β}:([]:List α).map f=[]:=rfl
def rl4_{α β:Type}{a:α}{f:α->Option β}:(some a).bind f=f a:=rfl
def rl5_{α:Type}{a:α}{o:Option α}:(some a).or o=some a:=rfl
def rl6_{α:Type}{o:Option α}:(none:Option α).or o=o:=rfl
def rl7_{α:Type}{a:α}:List.replicate 0 a=[]:=rfl
def rl8_{α:Type}{a:α}{n:Nat}:List.replicate (n+1) a=a::List.replicate n a:=rfl
def rl9_{α:Type}{a:α}{l m:List α}:(a::l)++m=a::(l++m):=rfl
def rl0_{α:Type}{l:List α}:[]++l=l:=rfl
def EV_:(type_of% @D.bl.injEq)/\(type_of% @D.int.injEq)/\(type_of% @D.str.injEq)/\(type_of% @Nat.zero_add)/\(type_of% @if_true.{1})/\(type_of% @if_false.{1})/\(type_of% @Bool.and_true)/\(type_of% @Bool.true_and)/\(type_of% @Bool.and_self)/\(type_of% @Bool.false_eq_true)/\(type_of% @Option.some.injEq.{0})/\(type_of% @exists_eq_left'.{1})/\(type_of% @exists_eq_left.{1})/\(type_of% @exists_eq_right.{1})/\(type_of% @true_or)/\(type_of% @or_true)/\(type_of% @true_and)/\(type_of% @and_true)/\(type_of% @Bool.not_true)/\(type_of% @Bool.not_false):=
 {@D.bl.injEq,@D.int.injEq,@D.str.injEq,@Nat.zero_add,@if_true.{1},@if_false.{1},@Bool.and_true,@Bool.true_and,@Bool.and_self,@Bool.false_eq_true,@Option.some.injEq.{0},@exists_eq_left'.{1},@exists_eq_left.{1},@exists_eq_right.{1},@true_or,@or_true,@true_and,@and_true,@Bool.not_true,@Bool.not_false}
section
variable{S:Type}
instance fP(S:Type)(p:Ae->Option D):Fn S:=λZ st=>Aw (p Z) st
instance aP(S:Type)(q:Ae->Option (List D)):AY S:=λZ st=>Aw (q Z) st
instance tP(S:Type)(q:Ae->Option Bool):AO S:=λZ st=>Aw (q Z) st
instance vr(i:Nat):Ae->Option D:=λZ=>rd Z i
instance cn(d:D):Ae->Option D:=λ_=>some d
instance o2(o:D->D->Option D)(p q:Ae->Option D):Ae->Option D:=λZ=>(p Z).bind λa=>(q Z).bind λb=>o a b
instance nl:Ae->Option (List D):=λ_=>some []
instance cs(p:Ae->Option D)(q:Ae->Option (List D)):Ae->Option (List D):=λZ=>(p Z).bind λa=>(q Z).bind λl=>some (a::l)
instance o1(o:List D->Option D)(q:Ae->Option (List D)):Ae->Option D:=λZ=>(q Z).bind o
instance ti(T:Bt)(p:Ae->Option D):Ae->Option D:=λZ=>(p Z).bind λd=>some (.bl (BZ T d))
instance tb(p:Ae->Option D):Ae->Option Bool:=λZ=>(p Z).bind D.bool?
open H in
def k8{o:D->D->Option D}{p q:Ae->Option D}:f2 S o (fP S p) (fP S q)=fP S (o2 o p q):=by
 funext Z st;unfold f2 fP o2;cases p Z with
 | none=>rfl
 | some a=>cases q Z<;>rfl
open H in
def sf{p:Ae->Option D}{q:Ae->Option (List D)}:Cp S (fP S p) (aP S q)=aP S (cs p q):=by
 funext Z st;unfold Cp fP aP cs;cases p Z with
 | none=>rfl
 | some a=>cases q Z<;>rfl
open H in
def sg{o:List D->Option D}{q:Ae->Option (List D)}:fA S o (aP S q)=fP S (o1 o q):=by
 funext Z st;unfold fA fP aP o1;cases q Z<;>rfl
open H in
def sj{T:Bt}{p:Ae->Option D}:fIs S T (fP S p)=fP S (ti T p):=by
 funext Z st;unfold fIs fP ti;cases p Z<;>rfl
open H in
def sk{p:Ae->Option D}:fB S (fP S p)=tP S (tb p):=by
 funext Z st;unfold fB fP tP tb;cases p Z<;>rfl
def wp_fP{p:Ae->Option D}{Z:Ae}{a:S}{Q:D->S->Prop}{E:AG->S->Prop}:Aa (fP S p Z a) Q E↔Aa (Aw (p Z) a) Q E:=Iff.rfl
def wp_aP{p:Ae->Option (List D)}{Z:Ae}{a:S}{Q:List D->S->Prop}{E:AG->S->Prop}:Aa (aP S p Z a) Q E↔Aa (Aw (p Z) a) Q E:=Iff.rfl
def wp_tP{p:Ae->Option Bool}{Z:Ae}{a:S}{Q:Bool->S->Prop}{E:AG->S->Prop}:Aa (tP S p Z a) Q E↔Aa (Aw (p Z) a) Q E:=Iff.rfl
def boS{α β:Type}{a:α}{f:α->Option β}:(some a).bind f=f a:=rfl
def dbb{b:Bool}:D.bool? (.bl b)=some b:=rfl
def w0{i j pos}:DE X c g (.Constant (.int i) j pos) (fP S (cn (.int i))):=o8
def w3{x j pos}:DE X c g (.Constant (.str x) j pos) (fP S (cn (.str x))):=pb
def w5{i j pos}:DE X c g (.Constant (.bool i) j pos) (fP S (cn (.bl i))):=o9
def w6{j pos}:DE X c g (.Constant .none j pos) (fP S (cn .non)):=pa
def w7{i:Nat}{x:Str}{pos:Pos}(h:PE X (.Name x pos) (Bx i)):DE X c .R (.Name x pos) (fP S (vr i)):=pd h
def w8{x:Str}{i:Int}{pos:Pos}(b:∃t,X.mg x=some (.int i t))(a:Gl X x)(d:autoParam 'u' uD):DE X c g (.Name x pos) (fP S (cn (.int i))):=qR b a d
def xa:DA X c [] (aP S nl):=ph
def g2_(h:DE X c g e (f2 S o (fP S p) (fP S q))):DE X c g e (fP S (o2 o p q)):=k8▸h
def gA_(h:DE X c g e (fA S oA (aP S qa))):DE X c g e (fP S (o1 oA qa)):=sg▸h
def gI_(h:DE X c g e (fIs S T (fP S p))):DE X c g e (fP S (ti T p)):=sj▸h
def gC_(h:DA X c es (Cp S (fP S p) (aP S qa))):DA X c es (aP S (cs p qa)):=sf▸h
def gB_(h:DT X c e (fB S (fP S p))):DT X c e (tP S (tb p)):=sk▸h
def gT_{e:Expr}(h:DT X c e (fB S (f2 S o (fP S p) (fP S q)))):DT X c e (tP S (tb (o2 o p q))):=gB_ (k8▸h)
end
def sm{S:Type}{F G:Ax S}{Z:Ae}{b:S}{Q:Fl->S->Prop}{E:AG->S->Prop}(h:∀P:Fl->S->Prop,(∀c a,Aa (G c a) Q E->P (.nx c) a)->(∀d a,Q (.rt d) a->P (.rt d) a)->(∀r a,Q (.bk r) a->P (.bk r) a)->(∀r a,Q (.ct r) a->P (.ct r) a)->Aa (F Z b) P E):Aa (E3 S F G Z b) Q E:=
 ao.mpr (h _ (λ_ _ z=>z) (λ_ _ z=>z) (λ_ _ z=>z) (λ_ _ z=>z))
section
variable{X:Cx}{S:Type}{W:Wd S}{c:Dx W}{g:Gr}{e a b:Expr}{es:List Expr}{o:D->D->Option D}{p q:Ae->Option D}{qa:Ae->Option (List D)}{pos:Pos}{f fa fb:Fn S}{rr:AY S}{ga gb gc:Gr}{fc:Fn S}{p2:Pos}{fk:Fn S}{Z:Ae}{st:S}{Q:D->S->Prop}{E:AG->S->Prop}{out:Str}{fs:List (Fn S)}
def xb{x:Str}(h:DE X c .R (.Name x pos) (fP S p))(d:DA X c es (aP S qa)):DA X c (.Name x pos::es) (aP S (cs p qa)):=gC_ (aX h d)
def xc{x:Str}(h:DE X c .R (.Name x pos) f)(d:DA X c es rr):DA X c (.Name x pos::es) (Cp S f rr):=aX h d
def xf{k:Const}{j}(h:DE X c .R (.Constant k j pos) (fP S p))(d:DA X c es (aP S qa)):DA X c (.Constant k j pos::es) (aP S (cs p qa)):=gC_ (aX h d)
def xg{k:Const}{j}(h:DE X c .R (.Constant k j pos) f)(d:DA X c es rr):DA X c (.Constant k j pos::es) (Cp S f rr):=aX h d
def xh{a b:Expr}(h:DE X c .R (.Subscript a b pos) (fP S p))(d:DA X c es (aP S qa)):DA X c (.Subscript a b pos::es) (aP S (cs p qa)):=gC_ (aX h d)
def xi{a b:Expr}(h:DE X c .R (.Subscript a b pos) f)(d:DA X c es rr):DA X c (.Subscript a b pos::es) (Cp S f rr):=aX h d
def xj{d:List Expr}{x1}(h:DE X c .R (.Tuple d x1 pos) (fP S p))(i:DA X c es (aP S qa)):DA X c (.Tuple d x1 pos::es) (aP S (cs p qa)):=gC_ (aX h i)
def xk{d:List Expr}{x1}(h:DE X c .R (.Tuple d x1 pos) f)(i:DA X c es rr):DA X c (.Tuple d x1 pos::es) (Cp S f rr):=aX h i
def xl{d:List Expr}(h:DE X c .R (.List d pos) (fP S p))(i:DA X c es (aP S qa)):DA X c (.List d pos::es) (aP S (cs p qa)):=gC_ (aX h i)
def xn{a:Expr}{i:List Expr}{d}(h:DE X c .R (.Call a i d pos) (fP S p))(j:DA X c es (aP S qa)):DA X c (.Call a i d pos::es) (aP S (cs p qa)):=gC_ (aX h j)
def xo{a:Expr}{i:List Expr}{d}(h:DE X c .R (.Call a i d pos) f)(j:DA X c es rr):DA X c (.Call a i d pos::es) (Cp S f rr):=aX h j
def xp{a b:Expr}{op}(h:DE X c .R (.BinOp a op b pos) (fP S p))(d:DA X c es (aP S qa)):DA X c (.BinOp a op b pos::es) (aP S (cs p qa)):=gC_ (aX h d)
def xq{a b:Expr}{op}(h:DE X c .R (.BinOp a op b pos) f)(d:DA X c es rr):DA X c (.BinOp a op b pos::es) (Cp S f rr):=aX h d
def xr{a:Expr}{op}(h:DE X c .R (.UnaryOp op a pos) f)(d:DA X c es rr):DA X c (.UnaryOp op a pos::es) (Cp S f rr):=aX h d
def xt{a:Expr}{gs scope}(h:DE X c .R (.ListComp a gs scope pos) f)(d:DA X c es rr):DA X c (.ListComp a gs scope pos::es) (Cp S f rr):=aX h d
def gU_{x1}(h:DA X c es (aP S qa)):DE X c g (.Tuple es x1 pos) (fP S (o1 CD qa)):=gA_ (pk h)
def gL_(h:DA X c es (aP S qa)):DE X c g (.List es pos) (fP S (o1 DY qa)):=gA_ (pp h)
def gX_(h:c.K=X.K)(d:DE X c .R a (fP S p))(j:DE X c .R b (fP S q))(i:GG b):DE X c g (.Subscript a b pos) (fP S (o2 Ba p q)):=g2_ (jj iV (js h) d j i)
def gY_(h:c.K=X.K)(d:DE X c .R a fa)(j:DE X c .R b fb)(i:GG b):DE X c g (.Subscript a b pos) (f2 S Ba fa fb):=jj iV (js h) d j i
def gP_(h:c.K=X.K)(d:DE X c .R a (fP S p))(i:DE X c .R b (fP S q)):DE X c g (.BinOp a .Add b pos) (fP S (o2 BO p q)):=g2_ (ji jV (jW h) d i)
def gp_(h:c.K=X.K)(d:DE X c .R a fa)(i:DE X c .R b fb):DE X c g (.BinOp a .Add b pos) (f2 S BO fa fb):=ji jV (jW h) d i
end
open PySem PySem.Spec PyProof PyProof.Rows
section
variable{S:Type}{i j:Nat}{Z:Ae}{st:S}{Q:Fl->S->Prop}{E:AG->S->Prop}
end
def KI(tk tv:TE):TE:=λY H Q=>∀p,H p=none->GH [(tk,tv)] Y (Ad H p (.dT [])) λps H2=>∃ks b y,ps=[(.ref b,y)]/\Do H2 b ks/\H2 p=some (.dT [])/\Q (.ref p) (Ad H2 p (.dT [(ks,y)]))
def sr(b:X.A.units+2<cLine)(c:PE X k tk)(e:PE X v tv):PE X (.Dict [some k] [v] pos) (KI tk tv):=by
 intro b s Y H Q I q;have d:=I.hok.fresh (Am s.heap.objs.size);have I1:=I.laid (a:=s.heap.objs.size) (o:=.dT []) (h':=s.heap.push { cls:=.type "dict",data:=.dict #[] }) (t':=s.toks) (λ_ _ q=>AM _ q) (Am _) (fO s.heap I.big);refine wpAny_Dict_any rfl rfl 'd' (show (1:Nat)<=15 by decide) (ai (eB c e fQ b _ Y _ _ I1 (q _ d)) λc b hI131=>?_);obtain⟨d,H2,I2,c,m,b,y,e,h,d,p⟩:=hI131;subst e;cases c with
 | @cons a0 e i j g f=>
   cases f;obtain⟨u,r⟩:=e;obtain⟨i,j⟩:=g;cases (show u=Value.ref b from i);obtain⟨z,l,e,c,f⟩:=fM I2.hok d;cases c;have e:storeAll s.heap.objs.size [(Value.ref b,r)]=(do dictSet s.heap.objs.size (.ref b) r;pure PUnit.unit):=by
    unfold storeAll;simp only[List.forIn_cons,List.forIn_nil,bind_assoc,pure_bind]
   rw[e];refine Ac (wpAny_dictSet_heap (knd:=EL X.prog X.w) (show X.A.units+1<cLine by omega) (key_of I2.hok h) f λh' c q=>An {.ref s.heap.objs.size,_,?_,rfl,p});obtain⟨f,es,e,g,n,i,s,_,p⟩:=c;refine dg I2 (by rw[d];exact True.intro) q ⟨f,g⟩ {by show 1<=sizeLine;decide,l,[(m,b,r)],.cons {rfl,?_,j} .nil,f,es,e,g,n,i,s,p};exact h.keeps λc b e=>by rw[af (bP e d (λz=>nomatch z))];exact e
section
variable{X:Cx}{S:Type}{W:Wd S}{c:Dx W}{g:Gr}
def JR(S:Type)(fk fv:Fn S):Fn S:=λZ st=>(fk Z st).bind λdk st1=>(fv Z st1).bind λdv st2=>match AJ dk with
 | some kk=>if dv.imm=true then .ok (.dct [.non,AH kk] [dv]) st2 else .bad
 | none=>.bad
def xu(hu:X.A.units+2<cLine)(T:DE X c .R k fk)(hv:DE X c .R v fv):DE X c g (.Dict [some k] [v] pos) (JR S fk fv):=
 (sr hu T hv).imp λY H Q hI46=>by
  obtain⟨Z,st,R,n,w⟩:=hI46;intro p a;have B:¬W.mv p:=bx n a;refine{Z,st,R.ext n (Af.laid a),aJ n a,aj (ae.mp w) (λI z q x H1 m d z1=>?_) λx z q H1 m d=>q H1 ((Af.laid a).trans m) d};refine{Z,z,(R.ext n (Af.laid a)).ext (aJ n a) m,d,aj (ae.mp q) (λG M q y H2 r j z2=>?_) λx M q H2 r j=>q H2 (((Af.laid a).trans m).trans r) j};cases E:AJ I with
  | none=>simp only[E] at q;exact q.elim
  | some l=>
    simp only[E] at q;by_cases im:G.imm=true
    ·rw[if_pos im] at q
     have P:Is c.K 'w' H2 I x:=(show BE c .R Y Z _ H1 I x from z1).ext r d;obtain⟨b,U,C,_⟩:=dw E P;have J:=m p _ (aq (H:=H) (o:=.dT [])) B;have i:H2 p=some (.dT []):=r p _ J B;have ex:Af W H (Ad H2 p (.dT [(l,y)])):=λb o C O=>by
      have N:b≠p:=au C a;rw[af N];exact r b o (m b o (by rw[af N];exact C) O) O
     have ks:∀b o,H2 b=some o->CU o->Ad H2 p (.dT [(l,y)]) b=some o:=λb o h s=>by
      by_cases e:b=p
      ·subst e;rw[i] at h;cases h;rcases s with⟨u,e⟩ | ⟨ob,u,e⟩<;>cases e
      ·rw[af e];exact h
     have kt:A9 (λ_=>False) (λ_=>False) H2 (Ad H2 p (.dT [(l,y)])):={ks,λ_ _ f=>False.elim f};have zy:Is c.K (λ_=>False) (Ad H2 p (.dT [(l,y)])) G y:=Is.mono kt (Is.ofImm im (show Is c.K 'w' H2 G y from z2));refine{l,b,y,by rw[U],C,i,q _ _ ex (bU j B i) (AB.val R (Is.dct_iff.mpr {p,[y],rfl,⟨B,a⟩,aa.one (Is.ofImm im zy),.inr {[l],rfl,rfl,aq}}) g)}
    ·rw[if_neg im] at q;exact q.elim
def k9{a d:Fn S}{Z:Ae}{i:S}{Q:D->S->Prop}{E:AG->S->Prop}:Aa (JR S a d Z i) Q E↔Aa (a Z i) (λf e=>Aa (d Z e) (λb a=>∃d,AJ f=some d/\b.imm=true/\Q (.dct [.non,AH d] [b]) a) E) E:=aG λf e=>aG λb a=>by
 cases e:AJ f with
 | none=>exact{λh=>h.elim,λ⟨d,e,_⟩=>by cases e}
 | some d=>
   show Aa (if b.imm=true then Ap.ok (D.dct [.non,AH d] [b]) a else .bad) Q E↔_;by_cases im:b.imm=true
   ·rw[if_pos im];exact{λh=>⟨d,rfl,im,h⟩,λ⟨k',e,_,h⟩=>by cases e;exact h}
   ·rw[if_neg im];exact{λh=>h.elim,λ⟨k',e,h,_⟩=>absurd h im}
end
abbrev IF(es:Array DictEntry)(ep:Nat):Obj:={ cls:=.type "dict",dict:=none,data:=.dict es ep,slots:=#[] }
section
variable{X:Cx}{S:Type}{W:Wd S}{c:Dx W}{A3:List 'p'}{Y:St}{H:Hp}{s:Shared}{h':Heap}{k:Nat}{x:Str}{prog:Program}{w:World}{A:Around}{E:Value->Shared->Prop}{h:Heap}{g:Array GenState}{d:Drawn}{t:Nat}{os:OsState}{a C:Addr}{o:Obj}{K:FG}{n:Str}{P:Program}{mg:Str->Option Value}{base:Heap}{p:Addr×Obj}
end
open PySem.SeqAt
section
variable{S:Type}{prog:Program}{w:World}{A:Around}{E:Value->Shared->Prop}{h:Heap}{g:Array GenState}{d:Drawn}{t:Nat}{os:OsState}{nm q:Str}{C N f:Addr}{bs bm bmB:List Value}{hd:Bool}{sn:List Str}{sub:List Value}{ab:Bool}{col:Option Bool}{dd:Option Addr}{k0 k1 k2 k3 k5:Option Value}{B newId initId:String}{a dx:Addr}{o:Obj}{K:FG}{X:Cx}{A3:List 'p'}{Y:St}{H H':Hp}{s:Shared}{e:Addr}{h':Heap}
end
section
variable{B nm q:Str}{hd ab:Bool}{X:Cx}{A3:List 'p'}{Y:St}{H:Hp}{s:Shared}{e C dx:Addr}{o:Obj}{i j:Nat}{x y name:Str}{v:V}{N:Addr}{bs bm:List Value}{sn:List Str}{sub:List Value}{col:Option Bool}{dd:Option Addr}{k0 k1 k2 k3 k5:Option Value}{id1:String}
end
section
variable{M:Model}{A:Around}{E:Value->Shared->Prop}{s:Shared}{x T Lv0:Addr}{C v c fl:Value}{od:Option Addr}{env:Env}{outer:List Env}{base:Heap}{Q:Unit->Shared->Prop}
end
section
variable{k:Nat}{x n:Str}{S:Type}{P:Program}{w:World}{K:FG}{mg:Str->Option Value}{base:Heap}{C C0 f:Addr}{st:Stmt}{fd:FuncData}{nm q qual:Str}{M:Addr}{bs bm:List Value}{sn:List Str}{sub:List Value}{ab:Bool}{col:Option Bool}{dd:Option Addr}{k0 k1 k2 k3 k5:Option Value}{x1 x2:Str}{j1 j2:Nat}{pB pA pc pe p1 p2 p3 p4 p5 p6 p7 p8 q1 q2 q3 q4 r1 r2 r3 r4:Pos}
end
section
variable{X:Cx}{S:Type}{W:Wd S}{c:Dx W}{g:Gr}{k:Nat}{x:Str}{ps:List Str}{p pos:Pos}{e:Expr}{es:List Expr}{E:XK}{C:Addr}{G:List D->Ap Unit D}{f:AY S}{nm q:Str}{hd ab:Bool}{newId:String}
end
section
variable{M:Model}{A:Around}{E:Value->Shared->Prop}{s:Shared}{x T Lv0:Addr}{C v c fl:Value}{od:Option Addr}{env:Env}{Q:Unit->Shared->Prop}{X:Cx}{A3:List 'p'}{Y:St}{H:Hp}{k:Nat}
end
section
variable{X:Cx}{S:Type}{W:Wd S}{c:Dx W}{k:Nat}{x:Str}{ps:List Str}{e:Expr}{es:List Expr}{E:XK}{C:Addr}{G:List D->Ap Unit D}{f:AY S}
end
section
variable{X:Cx}{S:Type}{W:Wd S}{c:Dx W}{i:Nat}
section
variable{Z:Ae}{st:S}{Q:Fl->S->Prop}{E:AG->S->Prop}
end
end
section
variable{X:Cx}{S:Type}{W:Wd S}{c:Dx W}{i j:Nat}
section
variable{Z:Ae}{st:S}{Q:Fl->S->Prop}{E:AG->S->Prop}
end
end
section
variable{S:Type}{name:Str}{id:String}{X:Cx}{W:Wd S}{c:Dx W}{g:Gr}
end
section
variable{prog:Program}{w:World}{A:Around}{E:Value->Shared->Prop}{s:Shared}{K:Type}[DecidableEq K]{knd:HeapKind prog w K}{d a:Addr}{xs:List (K×Addr×Value)}{k:K}{j:Nat}{p:Addr×Value}
end
theorem KT.at{H:Hp}{a:List (List Ak×V)}{c:List (List Ak×Addr×Value)}(r:KT H a c):∀{j:Nat} {k:List Ak} {y:V},a[j]?=some (k,y)->∃p,c[j]?=some (k,p)/\Aj y p.2:=by
 induction r with
 | nil=>intro j k y e;cases e
 | @cons p q f d b t ih=>
   intro j k y e;cases j with
   | zero=>cases e;exact{q.2,by rw[List.getElem?_cons_zero];exact congrArg some (Prod.ext b.1.symm rfl),b.2.2}
   | succ j=>exact ih e
section
variable{X:Cx}{S:Type}{W:Wd S}{c:Dx W}{g:Gr}{fk:Fn S}{i:Nat}
end
def ss{a:Nat}(b:(d == sysModules)=false)(g:s.heap.get? d=some (IF es a))(h:R (.int es.size s.toks) { s with toks:=s.toks+1 }):wpAny 'r' A (call (.builtin "dict.__len__") [.ref d]) R E s:=by
 refine Ev F.slot_dict_len {_,g,rfl} F.entry_dict_len ?_ (F.args_dict_len_1 _);show wpAny _ _ (PySem.dictSize d >>= _) _ _ s;unfold PySem.dictSize;refine Ac (Ac (wpAny_dictEntries g rfl (An ?_)));refine Ac (wpAny_pendingCount_other b (wpAny_ret_mkInt ?_));show R (.int ((es.size:Int)+((0:Nat):Int)) s.toks) _;rw[show (es.size:Int)+((0:Nat):Int)=es.size by omega];exact h
def su{b:Nat}(a:(d == sysModules)=false)(g:s.heap.get? d=some (IF es b))(c:es.size<=sizeLine)(h:Q (.int es.size (s.toks+1)) { s with toks:=s.toks+1+1 }):wpAny 'r' A (call (.builtin "len") [.ref d]) Q E s:=by
 have b:sizeLine=16777216:=sizeLine_eq;refine Calls.call_function_entry kind_len plain_len entry_len (args_len1 _) ?_;unfold Builtin.«len»;refine Ac (m:=oneArg "len" _) (An (Ac (wpAny_callSpecial?_slot (name:=Str.ofString "__len__") {_,g,rfl} F.slot_dict_len (ss a g ?_))));refine Ac (wpAny_holding (An (Ac (wpAny_letGo ?_))));have a:¬((es.size:Int)<0):=by omega
 have b:¬((es.size:Int)>=2 ^ 63):=by omega
 dsimp only;rw[if_neg a,if_neg b];exact Ac (wpAny_mkInt (An {_,rfl,h}))
section
variable{S:Type}{i:Nat}
def sv:Co X (.builtin "len") (λe H Q=>∃(a:Addr) (b:List (List Ak×V)),e=[.ref a]/\H a=some (.dT b)/\b.length<=1000/\Q (.int b.length) H):=by
 intro c s Y H e us Q I r h;obtain⟨a,b,rfl,f,d,q⟩:=h;obtain⟨u,rfl,c⟩:=bq r;cases c;obtain⟨z,m,e,d,o,es,h,g,n,c,l,j⟩:=(show Bb X.prog X.w H s.heap a (.dT b) from I.hok a _ f);have j:o=IF es h:=by
  obtain⟨f,s,p,r⟩:=o;obtain⟨a,f,h⟩:=n;simp only at a f h c;subst a f h c;rfl
 subst j;have a:es.size=b.length:=by
  rw[<-EV,l,Ag];exact(Paired.length d).symm
 have c:sizeLine=16777216:=sizeLine_eq;exact su m g 'o' {.int b.length,H,I.tok _,{_,by rw[a]},q}
def GS:List D->Option D
 | [.dct (.non::ks) _]=>if ks.length<=1000 then some (.int ks.length) else none
 | _=>none
def Ab.froze(I:Ab X h Y H s)(a:H p=some u)(c:Mut (some u))(g:∃o,s.heap.get? p=some o):∃o,Ab X h Y (Ad H p (.frz o u)) s:=by
 obtain⟨o,f⟩:=g;have d:∀b v,H b=some v->¬Mut (some v)->b≠p:=λb v e n z=>by subst z;rw[a] at e;cases e;exact n c
 exact{o,I.write (x:=p) (e:=p) (o:=.frz o u) (h':=s.heap) (t':=s.toks) (by rw[a];exact c) (.inl rfl) (λ_ _ _ e=>e) ⟨o,f⟩
  {f,(I.hok p u a).stay (λ_ _ _ e=>e) (λb e=>by rw[af (d b _ e λz=>z)];exact e) λb a e=>by rw[af (d b _ e λz=>z)];exact e}}
instance tFz(t:TE):TE:=λY H Q=>t Y H λv H'=>∃p u,v=.ref p/\H' p=some u/\((∃l,u=.lst l)\/∃l,u=.dT l)/\∀o,Q v (Ad H' p (.frz o u))
def sw(h:PE X e t):PE X e (tFz t):=λa s Y H Q I q=>ai (h a s Y H _ I q) λv d hI47=>by
 obtain⟨x,H1,I1,c,p,u,h,a,f,g⟩:=hI47;have b:Mut (some u)/\∃o,d.heap.get? p=some o:=by
  have z:=I1.hok p u a;rcases f with⟨l,rfl⟩ | ⟨l,rfl⟩
  ·obtain⟨_,d,n,_,e⟩:=z;exact{trivial,_,e}
  ·obtain⟨_,_,_,_,o,_,_,e,_⟩:=z;exact{trivial,_,e}
 obtain⟨o,I2⟩:=I1.froze a b.1 b.2;exact{x,_,I2,c,g o}
def DR:D->Option D
 | .lst l=>if D.immL l=true then some (.fl l) else none
 | .dct (.non::ks) l=>if D.immL l=true then some (.fd ks l) else none
 | _=>none
instance fFz(S:Type)(f:Fn S):Fn S:=λZ st=>(f Z st).bind λd st1=>Aw (DR d) st1
def lf{Z:Ae}{b:S}{Q:D->S->Prop}{E:AG->S->Prop}:Aa (fFz S f Z b) Q E↔Aa (f Z b) (λd a=>Aa (Aw (DR d) a) Q E) E:=ae
def e6{a:Addr->Prop}{H1:Hp}{p:Addr}{u o:HO}(d:H1 p=some u)(e:¬CU u):A9 (λ_=>False) a H1 (Ad H1 p o):=
 {λb v a c=>by rw[af (λz=>by subst z;rw[d] at a;cases a;exact e c)];exact a,λ_ _ h=>h.elim}
open H in
def xv(h:DE X c .F e f):DE X c g e (fFz S f):=(sw h).imp λY H Q hI48=>by
 obtain⟨Z,b,R,a,w⟩:=hI48;refine{Z,b,R,a,aj (ae.mp w) (λd a q v H1 j l z=>?_) λx a q=>q};obtain⟨d',d,q⟩:=ar.mp q;have fin:∀(a:Addr) (u o:HO),H1 a=some u->¬CU u->v=.ref a->Av c Y Z a->H a=none->d'.mut=false->(∀p,Is c.K p (Ad H1 a o) d' v)->Q v (Ad H1 a o):=λa u o f ns c h s m i=>by
  refine q v _ (λb o' r n=>?_) (bU l h.1 f ns) ?_
  ·rw[af (au r s)];exact j b o' r n
  ·cases g with
   | R=>exact i _
   | B=>exact i _
   | F=>exact{i _,λ_ _ z=>by rw[m] at z;cases z}
 unfold DR at d;split at d
 ·rename_i l
  split at d
  ·rename_i im
   cases d;obtain⟨a,b,c,h,f,i⟩:=Is.lst_iff.mp z.1;have ns:¬CU (.lst b):=λz=>by rcases z with⟨_,e⟩ | ⟨_,_,e⟩<;>cases e
   exact{a,_,c,f,.inl {_,rfl},λo=>fin a (.lst b) _ f ns c h (z.2 a c rfl) rfl λp=>Is.fl_iff.mpr {a,o,b,c,aq,(aa.ofImm im i).mono (e6 f ns)}}
  ·cases d
 ·rename_i g l
  split at d
  ·rename_i im
   cases d;obtain⟨a,b,c,h,i,g⟩:=Is.dct_iff.mp z.1;rcases g with⟨n,j,_,_⟩ | ⟨g,m,l,f⟩
   ·cases n with
    | nil=>cases j
    | cons z r=>
      have:D.non=CT z:=(List.cons.inj j).1;cases z<;>cases this
   ·have ns:¬CU (.dT (g.zip b)):=λz=>by rcases z with⟨_,e⟩ | ⟨_,_,e⟩<;>cases e
    exact{a,_,c,f,.inr {_,rfl},λo=>fin a (.dT (g.zip b)) _ f ns c h (z.2 a c rfl) rfl λp=>Is.fd_iff.mpr {a,o,b,g,c,(List.cons.inj m).2,l,aq,(aa.ofImm im i).mono (e6 f ns)}}
  ·cases d
 ·cases d
instance D.fl?:D->Option (List D)
 | .fl l=>some l
 | _=>none
def xx(a:c.K=X.K)(h:DE X c .B e f):DI X c tg e (Ek S D.fl? f):=
 (iB h).imp λY H R hI49=>by
  obtain⟨Z,b,d,a,w⟩:=hI49;refine{Z,b,d,a,aj (ae.mp w) (λd a q v H1 e f z=>?_) λx a q=>q};obtain⟨l,g,q⟩:=ar.mp q;cases d with
  | fl m=>
    cases g;obtain⟨a,o,b,h,s,i⟩:=Is.fl_iff.mp z;refine{a,h,{b,.inl (.inr ⟨o,s⟩)},q _ H1 e f ?_};intro m h p n H2 q k R2 f j;have e:AV X.K H2 a b:=.inl (.inr {o,k.frz a o _ s});have f:aa c.K (Av m p n) H2 l b:=i.mono k;refine{λd h=>?_,λa=>{b,e,by rw[<-f.length];exact a}};obtain⟨d,c,j⟩:=f.get h;exact{⟨b,d,e,c⟩,λx H3 hI50=>by
     obtain⟨d,y⟩:=hI50;subst d;have a:=y b e;rw[c] at a;cases a;exact{BH.refl _,j}}
  | _=>cases g
def As.fz(R:As c H Y Z)(p:Z[i]?=some (.own d))(r:Y[i]?=some (some (.ref a)))(W:H a=some u)(ns:¬CU u)(h:∀M,Is c.K M (Ad H a (.frz o u)) d' (.ref a)):As c (Ad H a (.frz o u)) Y (Z.set i (.bor d'))/\Be c H Y Z (Ad H a (.frz o u)) Y (Z.set i (.bor d')):=by
 have J:i<Z.length:=(AZ.mp p).1;have B:Ow Y Z a:=⟨i,d,p,r⟩;obtain⟨nm,I,o1,ho,n1,n2⟩:=R.owOk B;have x:∀b,Ow Y (Z.set i (.bor d')) b->Ow Y Z b/\b≠a:=λb hI51=>by
  obtain⟨j,e,C,A⟩:=hI51;rcases aA C with⟨_,z⟩ | ⟨G,z⟩
  ·cases z
  ·refine{⟨j,e,z,A⟩,λq=>?_}
   subst q;exact G (R.uniq j i b e d z p A r)
 have k:A9 (Av c Y Z) (Av c Y (Z.set i (.bor d'))) H (Ad H a (.frz o u)):=bw (λb v e t=>by
  have l:b≠a:=λz=>by subst z;rw[W] at e;cases e;exact ns t
  rw[af l];exact e) λb v y e=>{{y.1,λw=>y.2.1 (x b w).1,y.2.2},by rw[af (λ(z:b=a)=>y.2.1 (z▸B))];exact e}
 refine{{by rw[DD];exact R.len,λb v e n=>?_,λj s N=>?_,λb l=>?_,λj j' b e e' C A P O=>?_},{λb v e n w=>?_,λb v e n w=>(x b w).1}}
 ·have l:b≠a:=λz=>by subst z;rw[show c.H0 b=none from I] at e;cases e
  rw[af l];exact R.frame b v e n
 ·rcases aA N with⟨m,z⟩ | ⟨G,z⟩
  ·subst z m
   exact{.ref a,by rw[r];rfl,h _}
  ·have q:=R.slot j s z
   cases s with
   | no=>trivial
   | bor e=>obtain⟨v',g,T⟩:=q;exact{v',g,T.mono k}
   | own e=>
     obtain⟨b,g,n,f,t⟩:=q;have l:b≠a:=λz'=>by
      subst z';exact G (R.uniq j i b e d z p (aY g) r)
     exact{b,g,n,f,t.mono k λv z=>by rw[af l];exact z}
   | hnd=>exact q
 ·obtain⟨n,z,v,h',q⟩:=R.avl b l
  have E:b≠a:=λz'=>by
   subst z';obtain⟨U,g,Q,_⟩:=R.slot i _ p;rw[r] at g;have g:some (V.ref b)=some (V.ref U):=g;cases g;exact Q.2 l
  exact{n,z,v,by rw[af E];exact h',q}
 ·rcases aA C with⟨_,z⟩ | ⟨_,z⟩
  ·cases z
  ·rcases aA A with⟨_,z'⟩ | ⟨_,z'⟩
   ·cases z'
   ·exact R.uniq j j' b e e' z z' P O
 ·rw[af (λ(z:b=a)=>w (z▸B))];exact e
instance fzS(Z:Ae)(i:Nat):Option Ae:=match Z[i]? with
 | some (.own d)=>(DR d).map λd'=>Z.set i (.bor d')
 | _=>none
instance sFz(S:Type)(i:Nat)(F:Ax S):Ax S:=λZ st=>(Aw (fzS Z i) st).bind F
open H in
def xy(i:Nat)(h:DS X c s F):DS X c s (sFz S i F):=λp s Y H D I hI52=>by
 obtain⟨Z,x,R,r,w⟩:=hI52;obtain⟨f,e,w⟩:=ar.mp (ae.mp w);unfold fzS at e;cases g:Z[i]? with
 | none=>rw[g] at e;cases e
 | some a=>
   rw[g] at e;cases a with
   | own d=>
     have e:(DR d).map (λd'=>Z.set i (.bor d'))=some f:=e;cases b:DR d with
     | none=>rw[b] at e;cases e
     | some d'=>
       rw[b] at e;cases e;obtain⟨a,f,n,d,t⟩:=R.slot i _ g;have m:∀(u:HO),H a=some u->((∃l,u=.lst l)\/∃l,u=.dT l)->(∀(o:Obj) j,Is c.K j (Ad H a (.frz o u)) d' (.ref a))->wpAny 'e' X.A (exec _ X.env) (SP X p D) X.xe s:=λu c k v=>by
        have ns:¬CU u:=λz=>by rcases k with⟨l,rfl⟩ | ⟨l,rfl⟩<;>rcases z with⟨_,e⟩ | ⟨_,_,e⟩<;>cases e
        have d:Mut (some u)/\∃o,s.heap.get? a=some o:=by
         have z:=I.hok a u c;rcases k with⟨l,rfl⟩ | ⟨l,rfl⟩
         ·obtain⟨_,q,n,_,e⟩:=z;exact{trivial,_,e}
         ·obtain⟨_,_,_,_,o,_,_,e,_⟩:=z;exact{trivial,_,e}
        obtain⟨o,I2⟩:=I.froze c d.1 d.2;obtain⟨q,u⟩:=R.fz (o:=o) g (aY f) c ns (v o);exact h p s Y _ D I2 {_,x,q,bU r n.1 c ns,aj w (λg d q=>q.from u) λ_ _ q=>q}
       unfold DR at b;split at b
       ·rename_i l
        split at b
        ·rename_i im
         cases b;obtain⟨c,d,g⟩:=t;have ns:¬CU (.lst c):=λz=>by rcases z with⟨_,e⟩ | ⟨_,_,e⟩<;>cases e
         exact m _ d (.inl {_,rfl}) λo j=>Is.fl_iff.mpr {a,o,c,rfl,aq,(aa.ofImm im g).mono (e6 d ns)}
        ·cases b
       ·rename_i h l
        split at b
        ·rename_i im
         cases b;obtain⟨c,g,h⟩:=t;rcases h with⟨p,f,_,_⟩ | ⟨h,l,n,d⟩
         ·cases p with
          | nil=>cases f
          | cons z r=>
            have:L2.D.non=CT z:=(List.cons.inj f).1;cases z<;>cases this
         ·have ns:¬CU (.dT (h.zip c)):=λz=>by rcases z with⟨_,e⟩ | ⟨_,_,e⟩<;>cases e
          exact m _ d (.inr {_,rfl}) λo j=>Is.fd_iff.mpr {a,o,c,h,rfl,(List.cons.inj l).2,n,aq,(aa.ofImm im g).mono (e6 d ns)}
        ·cases b
       ·cases b
   | _=>cases e
def e7{F:Ax S}{Z:Ae}{b:S}{Q:Fl->S->Prop}{E:AG->S->Prop}:Aa (sFz S i F Z b) Q E↔∃a,fzS Z i=some a/\Aa (F a b) Q E:=by
 unfold sFz;rw[ae,ar]
end
def CO(K:FG)(a:Addr):Wd D where
 ok:=λd H=>d.flat=true/\Top K (λ_=>False) H d a
 mv:=λb=>b=a
 h:=.ref a
 stay:=λd H H' ⟨m,t⟩ k s=>{m,Top.mono (c:=DQ K H) {s,λ_ _ f=>f.elim} (λo e=>k a o rfl e) t}
 live:=λd H b ⟨_,t⟩ e=>by subst e;exact Top.there (c:=DQ K H) t
def lg{K:FG}{A:Addr->Prop}{H:Hp}{c d:List D}{a:Addr}(t:Top K A H (.dct (.non::c) d) a):∃(b:List (List Ak)) (us:List V),c=b.map AH/\b.length=us.length/\H a=some (.dT (b.zip us))/\aa K A H d us:=by
 obtain⟨us,i,b⟩:=t;rcases b with⟨h,a,_,_⟩ | ⟨e,g,b,f⟩
 ·cases h with
  | nil=>cases a
  | cons y r=>
    have:D.non=CT y:=(List.cons.inj a).1;cases y<;>cases this
 ·exact{e,us,(List.cons.inj g).2,b,f,i}
section
variable{X:Cx}{K:FG}{a0:Addr}{c:Dx (CO K a0)}{g ga gb:Gr}{i:Nat}{k value:Expr}{fk fv:Fn D}{pos:Pos}
def gU(R:As c H Y Z)(h:Z[i]?=some .hnd):Y[i]?=some (some (.ref a0)):=aY (show (Y[i]?).join=some (V.ref a0) from R.slot i _ h)
instance hnd?(Z:Ae)(i:Nat):Bool:=match Z[i]? with
 | some .hnd=>true
 | _=>false
def e8(h:hnd? Z i=true):Z[i]?=some .hnd:=by
 unfold hnd? at h;split at h
 ·assumption
 ·cases h
open H in
def sx{neg:Bool}{f j d:D}(h:Dt neg f j=some d):∃b e a,j=.dct (.non::b) e/\AJ f=some a/\d=.bl (if neg then !(AD a b e).isSome else (AD a b e).isSome):=by
 unfold Dt at h;split at h
 ·rename_i b e
  cases d:AJ f with
  | none=>rw[d] at h;cases h
  | some a=>rw[d] at h;cases h;exact⟨b,e,a,rfl,rfl,rfl⟩
 ·cases h
def Gh(neg:Bool)(i:Nat)(fk:Fn D):Fn D:=λZ st=>if hnd? Z i=true then (fk Z st).bind λdk st1=>Aw (Dt neg dk st1) st1 else .bad
def sA(r:c.K=K){Y:St}{H:Hp}{Q:VK}{neg:Bool}(h:tD c g (Gh neg i fk) Y H Q):tD c .R fk Y H λy H1=>Bx i Y H1 λx H2=>∃a o,x=.ref a/\BM H2 a y o/\Q (.bl (if neg then !o.isSome else o.isSome)) H2:=by
 obtain⟨Z,d,R,b,w⟩:=h;unfold Gh at w;by_cases j:hnd? Z i=true
 ·rw[if_pos j] at w
  refine{Z,d,R,b,aj (ae.mp w) (λf b q v H1 n e z=>?_) λx b q=>q};obtain⟨d,m,q⟩:=ar.mp q;refine{.ref a0,gU R (e8 j),?_};obtain⟨d,h,u,es,l,rfl⟩:=sx m;subst es;have p:Is K (λ_=>True) H1 f v:=Is.mono {λ_ _ z _=>z,λb o _ z=>⟨trivial,z⟩} (r▸(show Is c.K (λb=>¬b=a0) H1 f v from z));have s:Is K (λ_=>True) H1 (.dct (.non::d) h) (.ref a0):=Top.isTop (c:=DQ K H1) trivial (Top.mono (c:=DQ K H1) (A:=λ_=>False) {λ_ _ z _=>z,λ_ _ f=>False.elim f} (λ_ z=>z) e.2);obtain⟨a,o,r,f,m⟩:=gf l p s;refine{a,o,r,f,?_};have l:o.isSome=(AD u d h).isSome:=by
   rcases m with⟨a,d⟩ | ⟨_,_,a,d,_⟩<;>rw[a,d]<;>rfl
  rw[l];exact q _ H1 n e (BE.imm aI (show Is c.K (λb=>¬(CO K a0).mv b) H1 _ _ from Is.bl_iff.mpr rfl) g)
 ·rw[if_neg j] at w;exact w.elim
def xz{y:Str}(f:c.K=K)(a:X.A.units+2<cLine)(d:DE X c .R k fk)(b:PE X (.Name y py) (Bx i))(e:autoParam (behindInMarks .NotIn (.Name y py)=false) uR):DT X c (.Compare k [.NotIn] [.Name y py] pos) (fB D (Gh true i fk)):=
 (iz (i8 a d b) e).imp λY H Q q=>sA (g:=.R) f (show tB (tD c .R (Gh true i fk)) Y H Q from eC q)
def noS{d:D}{P:Prop}(e:(none:Option D)=some d):P:=nomatch e
def sB{x d:D}(e:GS [x]=some d):∃a b,x=.dct (.non::a) b/\a.length<=1000/\d=.int a.length:=by
 cases x with
 | dct a b=>cases a with
   | nil=>exact noS e
   | cons k a=>cases k with
     | non=>
       have e:(if a.length<=1000 then some (D.int a.length) else none)=some d:=e;by_cases h:a.length<=1000
       ·rw[if_pos h] at e;exact{a,b,rfl,h,(Option.some.inj e).symm}
       ·rw[if_neg h] at e;exact noS e
     | _=>exact noS e
 | _=>exact noS e
def HE(i:Nat):Fn D:=λZ st=>if hnd? Z i=true then Aw (GS [st]) st else .bad
def xA{x y:Str}{p a:Pos}(j:Gl X x)(l:X.mg x=none)(m:bootBuiltins x=some (.builtin "len"))(f:PE X (.Name y a) (Bx i))(h:autoParam (x≠"__name__") uD)(b:autoParam 'u' uD)(e:autoParam (starEach [.Name y a] X.env=(false,eval (.Name y a) X.env)::starEach [] X.env) uR)(d:autoParam ((backTo pos (starEach [] X.env)).any (·.1)=false) uR):DE X c g (.Call (.Name x p) [.Name y a] [] pos) (HE i):=
 (cZ sv j l m (aT f bg e) h b e d).imp λY H Q z=>by
  obtain⟨Z,a,R,b,w⟩:=z;unfold HE at w;by_cases a:hnd? Z i=true
  ·rw[if_pos a] at w
   obtain⟨d,f,q⟩:=ar.mp w;refine{.ref a0,gU R (e8 a),?_};obtain⟨m,d,rfl,j,rfl⟩:=sB f;obtain⟨e,us,l,h,n,_⟩:=lg b.2;have d:(e.zip us).length=m.length:=by rw[List.length_zip,<-h,Nat.min_self,l,Ag]
   refine{a0,_,rfl,n,by rw[d];exact j,?_};rw[d];exact q _ H Af.refl b (BE.imm ah (show Is c.K (λb=>¬(CO K a0).mv b) H _ _ from Is.int_iff.mpr rfl) g)
  ·rw[if_neg a] at w;exact w.elim
def Fk(st k v:D):Option D:=match st with
 | .dct (.non::ks) vs=>(AJ k).bind λkk=>if v.imm=true/\ks.length<sizeLine then some (.dct (.non::(AS kk v ks vs).1) (AS kk v ks vs).2) else none
 | _=>none
open H in
def sC{f k v d:D}(h:Fk f k v=some d):∃a e b,f=.dct (.non::a) e/\AJ k=some b/\v.imm=true/\a.length<sizeLine/\d=.dct (.non::(AS b v a e).1) (AS b v a e).2:=by
 unfold Fk at h;split at h
 ·rename_i a e
  cases j:AJ k with
  | none=>rw[j] at h;cases h
  | some b=>
    rw[j] at h;have h:(if v.imm=true/\a.length<sizeLine then some (D.dct (.non::(AS b v a e).1) (AS b v a e).2) else none)=some d:=h;split at h
    ·rename_i d;cases h;exact⟨a,e,b,rfl,rfl,d.1,d.2,rfl⟩
    ·cases h
 ·cases h
def IG(i:Nat)(fk fv:Fn D):Ax D:=λZ st=>(fv Z st).bind λv st1=>if hnd? Z i=true then (fk Z st1).bind λk st2=>(Aw (Fk st2 k v) st2).bind λd _=>.ok (.nx Z) d else .bad
def xB{x:Str}{G p2:Pos}(hK:c.K=K)(hu:X.A.units+2<cLine)(hx:PE X (.Name x G) (Bx i))(hk:DE X c .R k fk)(hv:DE X c .R value fv)(hs:autoParam (swapsWith value (some (.Subscript (.Name x G) k p2)) pos.line X.env=pure false) uR) :
 DS X c (.Assign [.Subscript (.Name x G) k p2] value pos) (IG i fk fv):=
 (fN hu hx hk hv hs).imp λD Y H q=>by
  refine aQ (bS (g:=.R) (k:=λv Z r=>if hnd? Z i=true then (fk Z r).bind λk l=>(Aw (Fk l k v) l).bind λd _=>.ok (.nx Z) d else .bad) q) λv H1 z=>?_
  obtain⟨Z,d,st0,r,R,ok,E,p,e1,z,w⟩:=z;by_cases O:hnd? Z i=true
  ·rw[if_pos O] at w
   refine{.ref a0,gU E (e8 O),Z,r,E,p,aj (ae.mp w) (λdk l I vk H2 B a zk=>?_) λx l I H2 B a=>I H2 ((e1.trans B).f0 R) a};obtain⟨d',ed,T⟩:=ar.mp (ae.mp I);obtain⟨ks,vs,N,es,Q,im,U,rfl⟩:=sC ed;subst es;obtain⟨bk,P,J,_⟩:=dw Q (show Is c.K (λb=>¬b=a0) H2 dk vk from zk);obtain⟨M,us,ek,el,eH,iu⟩:=lg a.2;subst ek;have zv:Is K (λ_=>False) H2 d v:=Is.ofImm im (hK▸(show Is c.K (λb=>¬(CO K a0).mv b) H2 d v from z.ext B p));obtain⟨j,m,g1,g2,g3,g4⟩:=gg (k:=N) zv el iu;have hz:(M.zip us).length<sizeLine:=by
    rw[List.length_zip,<-el,Nat.min_self];rw[Ag] at U;exact U
   have W:=EM.t (v:=v) eH J hz;rw[g4] at W;subst P;refine{a0,_,rfl,W,?_};have ex:Af (CO K a0) H2 (Ad H2 a0 (.dT (j.zip m))):=λb o h n=>by rw[af n];exact h
   have C:(CO K a0).ok (.dct (.non::(AS N d (M.map AH) vs).1) (AS N d (M.map AH) vs).2) (Ad H2 a0 (.dT (j.zip m))):=by
    have ks:∀b o,H2 b=some o->CU o->Ad H2 a0 (.dT (j.zip m)) b=some o:=λb o h s=>by
     by_cases e:b=a0
     ·have z:=Option.some.inj (eH.symm.trans (e▸h))
      exact s.elim (λy=>y.elim λu e=>nomatch z.trans e) λy=>y.elim λob y=>y.elim λu e=>nomatch z.trans e
     ·rw[af e];exact h
    refine{eK im a.1,m,g2.mono {ks,λ_ _ f=>False.elim f},.inr {j,by rw[g1],g3,aq}}
   exact T Y _ ((e1.trans (B.trans ex)).frm) C ((E.ext p B).ext a ex)
  ·rw[if_neg O] at w;exact(show False from w).elim
end
instance spL{S:Type}(W:Wd S)(K:FG)(F:List D->S->Ap S D):Sp:=λvs H Q _=>∃l us st,vs=us++[W.h]/\aa K 'w' H l us/\W.ok st H/\
 Aa (F l st) (λd st'=>∀v H',Af W H H'->W.ok st' H'->Is K (λb=>¬W.mv b/\H b=none) H' d v->Q v H') λ_ _=>False
def D1(n:Nat)(l:List D):Ae:=l.map Sl.bor++Sl.hnd::List.replicate (n-1-l.length) .no
def FN{S:Type}(n p:Nat)(B:Ax S):List D->S->Ap S D:=λl st=>if l.length+1=p/\p<=n then Ic (B (D1 n l) st) else .bad
def lh{n:Nat}{i:Nat}(h:(D1 n l)[i]?=some s):(∃d,s=.bor d/\l[i]?=some d)\/(s=.hnd/\i=l.length)\/s=.no:=by
 unfold D1 at h;by_cases a:i<l.length
 ·rw[EU (by rw[Ag];exact a),AT] at h
  cases q:l[i]? with
  | none=>rw[q] at h;cases h
  | some d=>rw[q] at h;cases h;exact .inl ⟨d,rfl,rfl⟩
 ·rw[G9 (by rw[Ag];exact ED a),Ag] at h
  cases e:i-l.length with
  | zero=>rw[e] at h;cases h;exact .inr (.inl {rfl,Fc (Nat.le_of_sub_eq_zero e) (ED a)})
  | succ m=>
    rw[e,List.getElem?_cons_succ,He] at h;split at h
    ·cases h;exact .inr (.inr rfl)
    ·cases h
def sD{N:List Str}{us:List V}{h:V}{l:List D}(a:l.length=us.length):(B0 N (us++[h])).length=(D1 N.length l).length:=by
 unfold B0 D1;rw[A8,Ag,A8,Gy,A8,Ag,a];show us.length+1+(N.length-(us.length+1))=us.length+((List.replicate (N.length-1-us.length) Sl.no).length+1);rw[Gy,Nat.sub_sub,Cm 1 us.length,Eb,Cm 1 (N.length-_)]
section
variable{P:Program}{w:World}{K:FG}{mg:Str->Option Value}{base:Heap}
open H in
def Cr.dL{Sx:Type}{W:Wd Sx}{x qual:Str}{st:Stmt}{f:Addr}{fd:FuncData}{N ps:List Str}{k:Nat}{B:Ax Sx}(F:Cr K x qual st f fd)(S:CQ N ps (AI st))(hb:∀(cdv:Value) (A:Around) (outer:List Env) (s:Shared) (H:Hp) (E:XK),AQ k (A.deeper (envOfC qual (AI st) s.heap.objs.size f cdv))->
  BK (Cs CX0 P w K mg base N qual (AI st) f cdv A outer s H E).nox (DF W K H) (B1 st) B):BS P w K mg base CX0 (k+1) f fd ps (spL W K (FN N.length ps.length B)):=by
 refine F.ok S (λvs H Q E h=>?_) λcdv A outer s H vs Q E hr h=>?_
 ·obtain⟨l,us,st0,rfl,i,ok,w⟩:=h
  unfold FN at w;split at w
  ·rename_i hl
   rw[A8,<-i.length];exact hl.1
  ·exact w.elim
 ·obtain⟨l,us,st0,rfl,i,ok,w⟩:=h
  unfold FN at w;split at w
  ·rename_i hl
   have il:=i.length;have no:∀b,¬Ow (B0 N (us++[W.h])) (D1 N.length l) b:=λb hI53=>by
    obtain⟨j,d,h1,_⟩:=hI53;rcases lh h1 with⟨_,z,_⟩ | ⟨z,_⟩ | z<;>cases z
   have R:As (DF W K H) H (B0 N (us++[W.h])) (D1 N.length l):=by
    refine{?_,λb o e _=>e,λj s hs=>?_,λb z=>z.elim,λj j' a d e h1 _ h3 _=>(no a ⟨j,d,h1,h3⟩).elim}
    ·exact sD il
    ·rcases lh hs with⟨d,rfl,hd⟩ | ⟨rfl,rfl⟩ | rfl
     ·obtain⟨v,hv,iv⟩:=i.get hd
      exact{v,by rw[dn (v:=v) (by rw[EU (AZ.mp hv).1];exact hv)];rfl,iv.mono {λ_ _ z _=>z,λb o a z=>{{a,no b,λm=>m},z}}}
     ·show ((B0 N (us++[W.h]))[l.length]?).join=some W.h
      rw[dn (v:=W.h) (by rw[il,G9 (Am _)];simp)];rfl
     ·trivial
   refine{_,hb cdv A outer s H E hr,D1 N.length l,st0,R,ok,?_};cases q:B (D1 N.length l) st0 with
   | bad=>rw[q] at w;exact w.elim
   | exc x u=>rw[q] at w;exact w.elim
   | ok fl u=>
     rw[q] at w;cases fl with
     | rt d=>exact λv H' f0 ok' z=>w v H' f0 ok' z
     | nx Z=>exact λY' H' fr ok' R'=>w .non H' (λb o e n=>R'.frame b o e n) ok' (Is.non_iff.mpr rfl)
     | bk Z=>exact w.elim
     | ct Z=>exact w.elim
  ·exact w.elim
end
section
variable{X:Cx}{S:Type}{W:Wd S}{c:Dx W}{i j k:Nat}{f x y:Str}{ps:List Str}{e1 e2:Expr}{f1 f2':Fn S}{G:List D->D->Ap D D}{pf py p pos pos':Pos}
def FP(Z:Ae)(j:Nat):Option D:=match Z[j]? with
 | some (.own d)=>if d.flat=true then some d else none
 | _=>none
def sE(h:FP Z j=some d):Z[j]?=some (.own d)/\d.flat=true:=by
 unfold FP at h;split at h
 ·split at h
  ·cases h;exact{by assumption,by assumption}
  ·cases h
 ·cases h
def HF(S:Type)(i j:Nat)(G:List D->D->Ap D D)(fa:AY S):Ax S:=λZ st=>match FP Z j with
 | some d=>(fa Z st).bind λl st1=>if D.immL l=true/\i≠j then (match G l d with
  | .ok r d'=>(Aw (putN (Z.set j (.own d')) i r) st1).bind λZ' st2=>.ok (.nx Z') st2
  | _=>.bad) else .bad
 | none=>.bad
def sF(C:∀a,Ce X.prog X.w X.K X.mg X.base k f ps (spL (CO X.K a) X.K G))(A:AQ k X.A)(u:Gl X f)(n:PE X e1 t1)(o:PE X e2 t2)(g:PE X (.Name y py) (Bx j))(b:autoParam ((f == ("__debug__" : Str))=false) uD)(e:autoParam (starEach [e1,e2,.Name y py] X.env=(false,eval e1 X.env)::starEach [e2,.Name y py] X.env) uR)(r:autoParam (starEach [e2,.Name y py] X.env=(false,eval e2 X.env)::starEach [.Name y py] X.env) uR)(h:autoParam (starEach [.Name y py] X.env=(false,eval (.Name y py) X.env)::starEach [] X.env) uR)(d:autoParam ((backTo pos (starEach [e2,.Name y py] X.env)).any (·.1)=false) uR):PE X (.Call (.Name f pf) [e1,e2,.Name y py] [] pos) (λY H Q=>∃a,F5 (spL (CO X.K a) X.K G) [] E0 (DX t1 (DX t2 (DX (Bx j) FC))) Y H Q):=
 λl s Y H Q I hI54=>by
  obtain⟨a,q⟩:=hI54;obtain⟨B,J,v,m,z,F⟩:=(C a).ex;exact cY (E:=E0) F A u v m z .nil da (aT n (aT o (aT g bg h) r) e) b e d l s Y H Q I q
def sG{K:FG}{e:Addr->Prop}{H:Hp}{d:D}{a:Addr}(g:d.flat=true)(b:Top K e H d a):(CO K a).ok d H:={g,by
 cases d with
 | lst l=>obtain⟨a,e,i⟩:=b;exact{a,e,aa.ofImm g i}
 | dct d l=>obtain⟨a,i,q⟩:=b;exact{a,aa.ofImm g i,q}
 | _=>exact b}
open H in
def xC(hK:c.K=X.K)(C:∀a,Ce X.prog X.w X.K X.mg X.base k f ps (spL (CO X.K a) X.K G))(hr:AQ k X.A)(hg:Gl X f)(hN:X.N.Nodup)(hi:X.N[i]?=some x)(hx:Loc X.env.scope x)(h1:DE X c .R e1 f1)(h2:DE X c .R e2 f2')(hy:PE X (.Name y py) (Bx j))(hdb:autoParam ((f == ("__debug__" : Str))=false) uD)(s1:autoParam (starEach [e1,e2,.Name y py] X.env=(false,eval e1 X.env)::starEach [e2,.Name y py] X.env) uR)(s2:autoParam (starEach [e2,.Name y py] X.env=(false,eval e2 X.env)::starEach [.Name y py] X.env) uR)(s3:autoParam (starEach [.Name y py] X.env=(false,eval (.Name y py) X.env)::starEach [] X.env) uR)(hpl:autoParam ((backTo pos (starEach [e2,.Name y py] X.env)).any (·.1)=false) uR)(hs:autoParam (swapsWith (.Call (.Name f pf) [e1,e2,.Name y py] [] pos) (some (.Name x p)) pos'.line X.env=pure false) uR)(hf:X.fn x=true\/X.env.scope.names.lookup x=some .local:=by first | exact .inl rfl | exact .inr rfl | assumption) :
 DS X c (.Assign [.Name x p] (.Call (.Name f pf) [e1,e2,.Name y py] [] pos) pos') (HF S i j G (Cp S f1 (Cp S f2' (F8 S)))):=
 (bv hN hi hx (sF C hr hg h1 h2 hy hdb s1 s2 s3 hpl) hs hf).imp λEn Y H hI55=>by
  obtain⟨Z,st,R,ok,w⟩:=hI55;unfold HF at w;cases hj:FP Z j with
  | none=>rw[hj] at w;exact w.elim
  | some d=>
    rw[hj] at w;obtain⟨ho,fl⟩:=sE hj;obtain⟨a,ea,nn,f0,tp⟩:=R.slot j _ ho;have T:=aY ea;refine{a,Z,st,R,ok,aj (ae.mp (ae.mp w)) (λd1 st1 q1 v1 H1 x1 I z1=>?_) λx st1 q H1 x1 I=>q H1 (x1.f0 R) I};refine{Z,st1,R.ext ok x1,I,aj (ae.mp (ae.mp q1)) (λd2 g e v2 H2 x2 n z2=>?_) λx g q H2 x2 n=>q H2 ((x1.trans x2).f0 R) n};refine{.ref a,T,?_};have e:Aa (if D.immL [d1,d2]=true/\i≠j then (match G [d1,d2] d with
     | .ok r d'=>(Aw (putN (Z.set j (.own d')) i r) g).bind λZ' g=>.ok (.nx Z') g
     | _=>.bad) else .bad) (B2 c En Y Z H) (CF c):=e
    by_cases hc:D.immL [d1,d2]=true/\i≠j
    ·rw[if_pos hc] at e
     obtain⟨im,U⟩:=hc;have im1:d1.imm=true/\d2.imm=true:={(GB.mp im).1,(GB.mp (GB.mp im).2).1};have x12:=x1.trans x2;have R2:=R.ext ok x12;obtain⟨l,eb,nn2,f02,tp2⟩:=R2.slot j _ ho;have:l=a:=by
      have:=(aY eb).symm.trans T;cases this;rfl
     subst this;obtain⟨u,hu,nt,nf⟩:=Top.there (c:=c) tp2;have ns:¬CU u:=λs=>s.elim (λz=>z.elim nt) λz=>z.elim λob z=>z.elim (nf ob)
     have okd:(CO X.K l).ok d H2:=sG fl (hK▸tp2);refine{[d1,d2],[v1,v2],d,rfl,aa.cons.mpr {_,_,rfl,Is.ofImm im1.1 (hK▸(show Is c.K 'w' H2 d1 v1 from z1.ext x2 I)),aa.one (Is.ofImm im1.2 (hK▸(show Is c.K 'w' H2 d2 v2 from z2)))},okd,?_};cases hG:G [d1,d2] d with
     | bad=>rw[hG] at e;exact e.elim
     | exc x s=>rw[hG] at e;exact e.elim
     | ok r d'=>
       rw[hG] at e;obtain⟨Z',O,e⟩:=ar.mp (ae.mp e);intro v P x' ok' z';have z':Is X.K (λb=>¬b=l/\H2 b=none) P r v:=z';obtain⟨o',ho',nt',nf'⟩:=Top.there (c:=DQ X.K P) ok'.2;have ns':¬CU o':=λs=>s.elim (λz=>z.elim nt') λz=>z.elim λob z=>z.elim (nf' ob)
       -- the heap with what is new,the dict as it was
       obtain⟨E,hm1,J⟩:∃E:Hp,E l=H2 l/\∀b,b≠l->E b=P b:={λb=>if b=l then H2 l else P b,if_pos rfl,λb B=>if_neg B};have eH:Ad E l o'=P:=by
        funext b;by_cases B:b=l
        ·rw[B,aq,ho']
        ·rw[af B,J b B]
       have kp:∀b o,H2 b=some o->E b=some o:=λb o h=>by
        by_cases B:b=l
        ·rw[B] at h ⊢;exact hm1.trans h
        ·rw[J b B];exact x' b o h B
       have xm:Af W H2 E:=λb o h _=>kp b o h
       have okm:W.ok g E:=W.stay g H2 E n (λb o _ h=>kp b o h) λb o h _=>kp b o h
       have zm:Is c.K (Av c Y Z) E r v:=by
        rw[hK];refine z'.mono {λb o h s=>?g1,λb o nb h=>{{bx n nb.2,λow=>?g2,λav=>?g3},?g4}};case g1=>
         by_cases B:b=l
         ·exact(ns' (Option.some.inj (ho'.symm.trans (B▸h))▸s)).elim
         ·rw[J b B];exact h
        case g2=>
         obtain⟨_,_,o2,h2,_⟩:=R2.owOk ow;exact nomatch nb.2.symm.trans h2
        case g3=>
         obtain⟨_,_,o2,h2,_⟩:=R2.avl b av;exact nomatch nb.2.symm.trans h2
        case g4=>rw[J b nb.1];exact h
       unfold putN at O;by_cases M:i<(Z.set j (.own d')).length
       ·rw[if_pos M] at O
        have Q:i<Z.length:=by rw[DD] at M;exact M
        have fin:∀(s:Sl),As c E (Y.set i (some v)) (Z.set i s)->Be c H2 Y Z E (Y.set i (some v)) (Z.set i s)->Z'=(Z.set j (.own d')).set i s->En.nx (Y.set i (some v)) P:=λs R3 F3 er=>by
         have hj2:(Z.set i s)[j]?=some (.own d):=by rw[Ci U];exact ho
         have sj2:(Y.set i (some v))[j]?=some (some (.ref l)):=by rw[Ci U];exact T
         obtain⟨R4,F4⟩:=R3.wr (d':=d') (o:=o') hj2 sj2 ⟨nt',nf'⟩ λk=>by
          rw[eH,hK];exact Top.mono (c:=DQ X.K P) (A:=λ_=>False) {λ_ _ z _=>z,λ_ _ f=>False.elim f} (λ_ z=>z) ok'.2
         have es:(Z.set i s).set j (.own d')=Z':=by rw[er,List.set_comm _ _ U]
         rw[eH,es] at R4 F4;exact e _ P ((x12.frm.trans F3).trans F4) (eH▸bU okm nn.1 (hm1.trans hu) ns) R4
        by_cases m:r.flat=true
        ·rw[if_pos m] at O
         obtain⟨b,rfl,mu,av,_⟩:=fS z' m;obtain⟨R3,F3⟩:=R2.setO (i:=i) n xm okm Q zm m av.2;exact fin _ R3 F3 (Option.some.inj O).symm
        ·rw[if_neg m] at O
         exact fin _ ((R2.ext n xm).setB Q zm) (xm.frm.trans aZ) (Option.some.inj O).symm
       ·rw[if_neg M] at O;exact nomatch O
    ·rw[if_neg hc] at e;exact e.elim
section
variable{Q:Fl->S->Prop}{E:AG->S->Prop}{Z:Ae}{st:S}{fa:AY S}
def sH:Aa (HF S i j G fa Z st) Q E↔∃d,FP Z j=some d/\Aa (fa Z st) (λl a=>D.immL l=true/\i≠j/\Aa (G l d) (λr d'=>∃b,putN (Z.set j (.own d')) i r=some b/\Q (.nx b) a) λ_ _=>False) E:=by
 unfold HF;cases h:FP Z j with
 | none=>exact{λq=>q.elim,λ⟨d,e,_⟩=>by cases e}
 | some d=>
   refine Iff.trans (aG (P:=λl a=>D.immL l=true/\i≠j/\Aa (G l d) (λr d'=>∃b,putN (Z.set j (.own d')) i r=some b/\Q (.nx b) a) λ_ _=>False) λl a=>?_) {λq=>⟨d,rfl,q⟩,λ⟨d',e,q⟩=>by cases e;exact q};by_cases a:D.immL l=true/\i≠j
   ·rw[if_pos a]
    cases G l d with
    | bad=>exact{λq=>q.elim,λq=>q.2.2.elim}
    | exc x s=>exact{λq=>q.elim,λq=>q.2.2.elim}
    | ok r d'=>
      dsimp only;rw[ae,ar];exact{λq=>⟨a.1,a.2,q⟩,λq=>q.2.2}
   ·rw[if_neg a];exact{λq=>q.elim,λq=>a ⟨q.1,q.2.1⟩}
end
end
end L2
namespace Ts
open PySem PyProof PyProof.Rows
structure DU(prog:Program)(w:World)(O:KeyOrd) where
 at_:Heap->Value->O.α->Prop
 ok:O.α->Prop
 dflt:O.α
 fn:∀{h v a b},at_ h v a->at_ h v b->a=b
 keep:∀{h h':Heap} {v a},at_ h v a->(∀b o,o.cls≠.type "list"->h.get? b=some o->h'.get? b=some o)->at_ h' v a
 knd:SortKind
 room:Around->Prop
 kind:∀{A:Around} {E:Value->Shared->Prop} {s:Shared} {vs:List Value} {Q:SortKind->Shared->Prop},(∀v∈vs,∃a,ok a/\at_ s.heap v a)->2<=vs.length->Q knd s->wpAny 'r' A (keyKind' vs.toArray) Q E s
 cmp:∀{A:Around} {E:Value->Shared->Prop} {s:Shared} {st:SortSt} {x y:Keyed} {a b:O.α} {Q:Option Bool->SortSt->Prop},room A->kindOf st=knd->at_ s.heap x.1 a->at_ s.heap y.1 b->Q (some (O.blt a b)) st->wpS 'r' A E s (lt' x y) Q st
section
variable(S:DU prog w O)
open Classical in
instance DU.key(h:Heap)(v:Value):Option O.α:=if z:∃a,S.at_ h v a then some z.choose else none
def DU.key_of(z:S.at_ h v a):S.key h v=some a:=by
 have y:∃a,S.at_ h v a:=⟨a,z⟩;unfold DU.key;rw[dif_pos y,S.fn y.choose_spec z]
open H in
def DU.at_of(z:S.key h v=some a):S.at_ h v a:=by
 unfold DU.key at z;split at z
 ·rename_i y
  cases z;exact y.choose_spec
 ·cases z
abbrev DU.kk(h:Heap):KeyKind:={O,S.key h,S.dflt}
def DU.cmpK(f:S.room A):Dl prog w A E s (S.kk s.heap) S.knd:=λc x y a b Q e d c h=>S.cmp f e (S.at_of d) (S.at_of c) h
variable{S}
def gV{h:Heap}{a:Addr}{n:Nat}{c us:List Value}(o1:h.get? a=some (seqObj "list" c.toArray n)){v:Value}{p:O.α}(z:S.at_ h v p):S.at_ (Eh h a us) v p:=S.keep z λb o nl g=>r6 g λe=>by
 subst e;rw[o1] at g;cases g;exact nl rfl
def sI(u:S.room A){n:Nat}(o1:s.heap.get? a=some (seqObj "list" c.toArray n))(r:∀v∈c,∃p,(2<=c.length->S.ok p)/\S.at_ s.heap v p)(f:c.length<128)(h:∀b:Array Value,b.toList.Perm c->b.toList.Pairwise (λx y=>∀p q,S.at_ s.heap x p->S.at_ s.heap y q->O.kle p q)->P (.done (.ret .none)) { s with heap:=sortedHeap s.heap a c b }) :
 wpAny 'r' A (Builtin.«list.sort» {[.ref a],[]}) P E s:=by
 rw[list_sort_plain];have d:a<s.heap.objs.size:=Heap.lt_size o1;refine Ac (listItems_at o1 rfl ?_);refine Ac (listUpdate_at o1 rfl ?_);obtain⟨b,o2⟩:∃b,(s.heap.update a (Obj.mapSeq λ_=>#[])).get? a=some (seqObj "list" #[] b):={_,get?_update_seq o1 (λ_=>#[])};refine Ac (seqEpoch_at o2 rfl ?_);refine Ac (wpAny_newTuple (Ac (wpAny_newList (wpAny_holding ?_))));have l:(Eh s.heap a c).get? a=some (seqObj "list" #[] b):=by
  unfold Eh;rw[GD _ _ _ (by rw[size_push',Heap.size_update];exact Bk (Nat.lt_succ_of_lt d)),GD _ _ _ (by rw[Heap.size_update];exact Bk d)];exact o2
 show wpAny 'r' A _ P E { s with heap:=Eh s.heap a c };dsimp only;have b:c.toArray.size=c.length:=by simp
 have fin:∀b:SortSt,(arrOf b).Perm (pairsOf c)->Up (S.kk (Eh s.heap a c)) (arrOf b) 0 (pairsOf c).size->P (.done (.ret .none)) { s with heap:=sortedHeap s.heap a c ((arrOf b).map (·.2)) }:=by
  intro b d n;have g:(arrOf b).toList.Perm (c.zip c):=by rw[<-pairsOf_toList];exact Array.perm_iff_toList_perm.mp d
  have A:∀p,p∈(arrOf b).toList->p.1=p.2/\p.1∈c:=λp e=>mem_zip_self (g.mem_iff.mp e)
  refine h _ ?_ ?_
  ·rw[Array.toList_map]
   have:=g.map (·.2);rwa [List.map_snd_zip (Am _)] at this
  ·rw[Array.toList_map,List.pairwise_map,Gv]
   intro i j h o m;have g:i<(arrOf b).size:=by simpa using h
   have e:j<(arrOf b).size:=by simpa using o
   have h:=n i j (AE _) (BC m) (by rw[<-d.size_eq];exact e);rw[aC g,aC e] at h;intro p q x y;have k:∀t (o:t<(arrOf b).size) (p:O.α),S.at_ s.heap (arrOf b)[t].2 p->ky (S.kk (Eh s.heap a c)) (arrOf b)[t]=p:=λt o p z=>by
    have m:=A _ (Array.getElem_mem_toList o);show (S.key (Eh s.heap a c) (arrOf b)[t].1).getD S.dflt=_;rw[m.1,S.key_of (gV o1 z)];rfl
   rw[k i g p (by simpa using x),k j e q (by simpa using y)] at h;exact h
 by_cases e:c.toArray.size<2
 ·rw[if_pos e,if_pos e]
  refine Ac (An ?_);rw[StateT.run_pure];refine Ac (An ?_);dsimp only;refine Ac (seqEpoch_at l rfl ?_);refine Ac (listUpdate_at l rfl ?_ (hsz2:=Az (BY ((Array.size_map ..).trans (pairsOf_size _))) (by rw[sizeLine_eq];omega)));simp only[bne_self_eq_false,Dw,if_false];exact An (fin (SortSt.mk' general' (c.toArray.zip c.toArray) #[] 7 none) (Array.Perm.refl _) (Up.one (by rw[pairsOf_size];omega)))
 ·rw[if_neg e,if_neg e]
  refine Ac (S.kind (s:={ s with heap:=Eh s.heap a c }) (λv m=>(r v m).imp λp z=>{z.1 (by simpa using ED e),gV o1 z.2}) (by simpa using ED e) ?_);refine Ac (C4 (rY (s:={ s with heap:=Eh s.heap a c }) (a₀:=pairsOf c) (st:=SortSt.mk' S.knd (c.toArray.zip c.toArray) #[] 7 none) (Q:=λ_ b=>(arrOf b).Perm (pairsOf c)/\failedOf b=none/\Up (S.kk (Eh s.heap a c)) (arrOf b) 0 (pairsOf c).size) (S.cmpK u) (λp d=>?_) {Array.Perm.refl _,rfl,rfl,rfl} (by rw[pairsOf_size];omega) (by rw[pairsOf_size];exact f) λb a g h=>⟨a,g,h⟩) ?_ λ_ _ e=>e)
  ·rw[pairsOf_toList] at d
   obtain⟨q,z⟩:=r _ (mem_zip_self d).2;exact{q,S.key_of (gV o1 z.2)}
  ·rintro ⟨⟨⟩,b⟩ s' ⟨rfl,d,a,n⟩
   dsimp only;refine Ac (seqEpoch_at l rfl ?_);refine Ac (listUpdate_at l rfl ?_ (hsz2:=Az (BY ((Array.size_map ..).trans (d.size_eq.trans (pairsOf_size _)))) (by rw[sizeLine_eq];omega)));rw[a];simp only[bne_self_eq_false,Dw,if_false];exact An (fin b d n)
def sJ(r:∀b:Around,b.units<=A.units+4->S.room b)(c:s.heap.IsList l a.toArray)(n:∀v∈a,∃p,(2<=a.length->S.ok p)/\S.at_ s.heap v p)(e:a.length<128)(h:∀d:Array Value,d.toList.Perm a->d.toList.Pairwise (λx y=>∀p q,S.at_ s.heap x p->S.at_ s.heap y q->O.kle p q)->Q (.ref (s.heap.objs.size+1)) { s with heap:=sortedAll s.heap a d }) :
 wpAny 'r' A (call (.builtin "sorted") [.ref l]) Q E s:=by
 refine Calls.call_function_entry kind_sorted plain_sorted entry_sorted (args_sorted1 _) ?_;unfold Builtin.«sorted»;refine Ac (m:=checkCount "sorted" 1 1 _) (An (Ac (collect_list c ?_ (by rw[sizeLine_eq];omega))));refine Ac (wpAny_newList ?_);have c:((s.heap.push (seqObj "list" #[] 0)).update s.heap.objs.size (Obj.mapSeq (·++a.toArray))).objs.size=s.heap.objs.size+1:=by
  rw[Heap.size_update,size_push']
 have o1:(((s.heap.push (seqObj "list" #[] 0)).update s.heap.objs.size (Obj.mapSeq (·++a.toArray))).push (seqObj "list" a.toArray 0)).get? (s.heap.objs.size+1)=some (seqObj "list" a.toArray 0):=by
  rw[<-c];exact Bi _ rfl
 show wpAny _ _ _ _ _ { s with heap:=((s.heap.push (seqObj "list" #[] 0)).update s.heap.objs.size (Obj.mapSeq (·++a.toArray))).push (seqObj "list" a.toArray 0) };rw[c];generalize j:((s.heap.push (seqObj "list" #[] 0)).update s.heap.objs.size (Obj.mapSeq (·++a.toArray))).push (seqObj "list" a.toArray 0)=H1 at o1 ⊢;have f:∀b o,s.heap.get? b=some o->H1.get? b=some o:=λb o g=>by
  have i:=Heap.lt_size g;rw[<-j,GD _ _ _ (by rw[c];exact Bk (Nat.lt_succ_of_lt i)),Heap.get?_update_ne _ _ _ _ (Bk i),GD _ _ _ (Bk i)];exact g
 have c:∀v p,S.at_ s.heap v p->S.at_ H1 v p:=λv p z=>S.keep z λb o _ g=>f b o g
 refine Ac (wpAny_holding (Ev slot_list_sort {_,o1,rfl} entry_list_sort (sI (s:={ s with heap:=H1 }) (r _ (by simp only[Around.in1_units];omega)) o1 (λv m=>(n v m).imp λp z=>{z.1,c v p z.2}) e λd b f=>{_,rfl,?_}) (args_list_sort _)));refine An {_,rfl,?_};have:=h d b (f.imp λ{x y} z p q b d=>z p q (c _ _ b) (c _ _ d));unfold sortedAll at this;rw[j] at this;exact this
end
open PySem PyProof PyProof.Rows PySem.W
abbrev Pt:=Int×Int
def Cc:List Pt->List Pt->Bool
 | [],[]=>false
 | [],_::_=>true
 | _::_,[]=>false
 | a::l,b::m=>lx a b||(decide (a=b)&&Cc l m)
theorem lk:∀l,Cc l l=false
 | []=>rfl
 | a::l=>by unfold Cc;rw[gJ,lk l];simp
def sK{a b:Pt}{l m:List Pt}:Cc (a::l) (b::m)=(lx a b||(decide (a=b)&&Cc l m)):=rfl
def dN:Cc (a::l) (b::m)=true↔lx a b=true\/a=b/\Cc l m=true:=by
 show (lx a b||(decide (a=b)&&Cc l m))=true↔_;simp
theorem lm:∀a b c,Cc a b=true->Cc b c=true->Cc a c=true
 | [],[],_,h,_=>by cases h
 | [],_::_,[],_,h=>by cases h
 | [],_::_,_::_,_,_=>rfl
 | _::_,[],_,h,_=>by cases h
 | _::_,_::_,[],_,h=>by cases h
 | a::l,b::m,c::n,e,d=>by
   rw[dN] at *;rcases e with e | ⟨rfl,e⟩
   ·rcases d with d | ⟨rfl,d⟩
    ·exact .inl (gK e d)
    ·exact .inl e
   ·rcases d with d | ⟨rfl,d⟩
    ·exact .inl d
    ·exact .inr {rfl,lm l m n e d}
theorem ln:∀a b c,Cc a c=true->Cc a b=true\/Cc b c=true
 | [],[],_,h=>.inr h
 | [],_::_,_,_=>.inl rfl
 | _::_,_,[],h=>by cases h
 | _::_,[],_::_,_=>.inr rfl
 | a::l,b::m,c::n,h=>by
   rw[dN] at *;rw[dN];rcases h with h | ⟨rfl,h⟩
   ·rcases kZ b h with q | q
    ·exact .inl (.inl q)
    ·exact .inr (.inl q)
   ·cases d:lx a b with
    | true=>exact .inl (.inl rfl)
    | false=>cases c:lx b a with
      | true=>exact .inr (.inl rfl)
      | false=>
        have e:=e0 d c;subst e;rcases ln l m n h with q | q
        ·exact .inl (.inr ⟨rfl,q⟩)
        ·exact .inr (.inr ⟨rfl,q⟩)
theorem lp:∀a b,Cc a b=false->Cc b a=false->a=b
 | [],[],_,_=>rfl
 | [],_::_,h,_=>by cases h
 | _::_,[],_,h=>by cases h
 | a::l,b::m,d,g=>by
   have c:¬(lx a b=true\/a=b/\Cc l m=true):=λz=>by rw[dN.mpr z] at d;cases d
   have f:¬(lx b a=true\/b=a/\Cc m l=true):=λz=>by rw[dN.mpr z] at g;cases g
   have e:a=b:=e0 (by simpa using λz=>c (.inl z)) (by simpa using λz=>f (.inl z));subst e;rw[lp l m (by simpa using λz=>c (.inr ⟨rfl,z⟩)) (by simpa using λz=>f (.inr ⟨rfl,z⟩))]
instance stO:KeyOrd where
 α:=List Pt
 blt:=Cc
 irrefl:=lk
 trans:=lm
 negTrans:=ln
 total:=lp
def HG(h:Heap)(v:Value)(l:List Pt):Prop:=∃a o items n,v=.ref a/\h.get? a=some o/\o.cls=.type "tuple"/\o.data=.seq items n/\Paired (Bg h) items.toList l
def Bg.fn(x:Bg h v p)(y:Bg h v q):p=q:=by
 obtain⟨a,o,n,t,u,e,g,_,d⟩:=x;obtain⟨_,_,_,_,_,e',b,_,d'⟩:=y;have a:=Option.some.inj (g.symm.trans ((congrArg h.get? (Value.ref.inj (e.symm.trans e'))).trans b));have l:=List.cons.inj (congrArg Array.toList (Data.seq.inj (d.symm.trans ((congrArg Obj.data a).trans d'))).1);exact Prod.ext (Value.int.inj l.1).1 (Value.int.inj (List.cons.inj l.2).1).1
def Paired.inv0{α β:Type}{R:α->β->Prop}{l:List β}(x:Paired R [] l):l=[]:=by cases x;rfl
def Paired.inv1{α β:Type}{R:α->β->Prop}{u:α}{us:List α}{l:List β}(x:Paired R (u::us) l):∃p m,l=p::m/\R u p/\Paired R us m:=by
 cases x with | cons a b=>exact{_,_,rfl,a,b}
def sL(x:Paired (Bg h) us l)(y:Paired (Bg h) us m):l=m:=by
 induction x generalizing m with
 | nil=>exact(Paired.inv0 y).symm
 | cons a _ ih=>
   obtain⟨_,_,rfl,c,d⟩:=Paired.inv1 y;rw[a.fn c,ih d]
def Bg.keep(k:∀b o,o.cls≠.type "list"->h.get? b=some o->h'.get? b=some o)(x:Bg h v p):Bg h' v p:=by
 obtain⟨a,o,n,t,u,e,g,c,d⟩:=x;exact{a,o,n,t,u,e,k _ _ (by rw[c];decide) g,c,d}
def sM(k:∀b o,o.cls≠.type "list"->h.get? b=some o->h'.get? b=some o)(x:Paired (Bg h) us l):Paired (Bg h') us l:=by
 induction x with
 | nil=>exact .nil
 | cons a _ ih=>exact .cons (a.keep k) ih
def Bg.isKey(x:Bg h v p):∃a,v=.ref a/\IsTupleKey (intKind prog w) h [p.1,p.2] a:=by
 obtain⟨a,o,n,t,u,e,g,c,d⟩:=x;exact{a,e,o,_,n,g,c,d,.cons (intKind_is _ _ _ _) (.cons (intKind_is _ _ _ _) .nil)}
section
variable{prog:Program}{w:World}{A:Around}{E:Value->Shared->Prop}{s:Shared}
def sN(c:A.units<cLine)(x:Bg s.heap u p)(y:Bg s.heap v q)(h:Q (decide (p=q)) s):wpAny 'r' A (eqBool u v) Q E s:=by
 obtain⟨a,rfl,d⟩:=x.isKey (prog:=prog) (w:=w);obtain⟨b,rfl,a⟩:=y.isKey (prog:=prog) (w:=w);refine wpAny_eqBool_tuple c d a ?_;have e:decide ([p.1,p.2]=[q.1,q.2])=decide (p=q):=decide_eq_decide.mpr {λz=>by simp only[List.cons.injEq,and_true] at z;exact Prod.ext z.1 z.2,λz=>by rw[z]};rw[e];exact h
def sO(a:A.units<cLine)(x:Bg s.heap u p)(y:Bg s.heap v q)(h:Q (lx p q) s):wpAny 'r' A (oneLt' false u v) Q E s:=by
 rw[oneLt'_eq];simp only[Dw,if_false];exact Ac (HT.lt_two a x y (D6 h))
def lq{f:Bool}{a:SortSt}{x y:Keyed}{i j:Addr}{e c:Obj}{d b:Array Value}{n k:Nat}{Q:Option Bool->SortSt->Prop}(g:kindOf a=tuples' f)(l:x.1=.ref i)(m:y.1=.ref j)(g1:s.heap.get? i=some e)(o:e.data=.seq d n)(g2:s.heap.get? j=some c)(e:c.data=.seq b k)(h:∀R:Bool->Shared->Prop,(∀c,Q (some c) a->R c s)->KatLex prog w A f (decide (d.size<b.size)) R (d.toList.zip b.toList) 0 s):wpS 'r' A E s (lt' x y) Q a:=by
 rw[lt'_eq];refine ag (wpS_get ?_);rw[g,l,m];exact ag (wpS_lift (wpAny_attempt (kat_lt g1 o g2 e (h _ λc q=>{rfl,ak q}))))
def sP(b:A.units<cLine){d:Bool}(k:Nat)(x:Paired (Bg s.heap) us l)(y:Paired (Bg s.heap) c m)(a:d=decide (l.length<m.length))(h:Q (Cc l m) s) :
 KatLex prog w A false d Q (us.zip c) k s:=by
 induction x generalizing c m k with
 | nil=>
   subst a;cases y<;>exact h
 | @cons _ p _ l x d ih=>cases y with
   | nil=>
     subst a;exact h
   | @cons _ q _ m y d=>
     refine kat_cons (sN b x y ?_);rw[sK] at h;by_cases e:p=q
     ·rw[az e] at h ⊢
      rw[e,gJ] at h;exact kat_yes (ih (k+1) d (a.trans (decide_eq_decide.mpr ⟨Gw,Nat.succ_lt_succ⟩)) h)
     ·rw[aw e] at h ⊢
      rw[Bool.false_and,Bool.or_false] at h;exact kat_no (sO b x y h)
def sQ{c:SortSt}(d:A.units<cLine)(g:kindOf c=tuples' false)(f:HG s.heap x.1 a)(e:HG s.heap y.1 b)(h:Q (some (Cc a b)) c):wpS 'r' A E s (lt' x y) Q c:=by
 obtain⟨i,o,us,n,l,g1,_,m,b⟩:=f;obtain⟨j,o2,o,n,i,g2,_,f,a⟩:=e;exact lq g l i g1 m g2 f λR e=>sP d 0 b a (by rw[<-EV,<-EV,Paired.length b,Paired.length a]) (e _ h)
def sR{b:List Value}{T:Value}(e:∀v∈b,∃f a o d n,Looks 'r' s.heap (typeOf f) T/\v=.ref a/\s.heap.get? a=some o/\o.cls=.type "tuple"/\o.data=.seq d n/\d[0]?=some f):∃c,KatTups s.heap b c/\c.length=b.length/\∀v∈c,Looks 'r' s.heap (typeOf v) T:=by
 induction b with
 | nil=>exact{[],trivial,rfl,λ_ m=>nomatch m}
 | cons v b ih=>
   obtain⟨c,k,l,t⟩:=ih λx m=>e x (.tail _ m)
   obtain⟨f,a,o,d,n,y,z⟩:=e v (.head _);exact{f::c,{⟨a,o,d,n,z⟩,k},congrArg (· + 1) l,λx m=>(AK.mp m).elim (λe=>e▸y) (t x)}
def lv{b:List Value}{T:Value}(d:2<=b.length)(e:(T == T)=true){Q:SortKind->Shared->Prop}(h:Q (tuples' (T != .type "tuple")) s)(g:∀v∈b,∃f a o c n,Looks 'r' s.heap (typeOf f) T/\v=.ref a/\s.heap.get? a=some o/\o.cls=.type "tuple"/\o.data=.seq c n/\c[0]?=some f):wpAny 'r' A (keyKind' b.toArray) Q E s:=by
 obtain⟨a,k,l,t⟩:=sR g;exact kat_kind k (l▸Nat.lt_of_succ_lt d) t e h
def sT{e:SortSt}{x y:Keyed}{a b:Pt}{Q:Option Bool->SortSt->Prop}(f:kindOf e=tuples' true)(d:Bg s.heap x.1 a)(c:Bg s.heap y.1 b)(h:Q (some (lx a b)) e):wpS 'r' A E s (lt' x y) Q e:=by
 obtain⟨i,o,n,t,u,g,g1,_,l⟩:=d;obtain⟨j,o2,m,n,o,i,g2,_,d⟩:=c;refine lq f g i g1 l g2 d λR f=>kat_cons (wpAny_eqBool_int ?_)
 have h:=f _ h;by_cases c:a.1=b.1
 ·rw[show (a.1 == b.1)=true from az c]
  refine kat_yes (kat_cons (wpAny_eqBool_int ?_));by_cases d:a.2=b.2
  ·rw[show (a.2 == b.2)=true from az d]
   rw[show lx a b=false from cu.mpr λz=>z.elim (λz=>Int.lt_irrefl _ (c▸z)) λz=>Int.lt_irrefl _ (d▸z.2)] at h;exact kat_yes (kat_nil h)
  ·rw[show (a.2 == b.2)=false from aw d]
   rw[show lx a b=decide (a.2<b.2) from decide_eq_decide.mpr {λz=>z.elim (λz=>absurd (c▸z) (Int.lt_irrefl _)) (·.2),λz=>.inr ⟨c,z⟩}] at h;exact kat_no (rZ h)
 ·rw[show (a.1 == b.1)=false from aw c]
  rw[show lx a b=decide (a.1<b.1) from decide_eq_decide.mpr {λz=>z.elim id λz=>absurd z.1 c,.inl}] at h;exact kat_no (oneLt_int h)
end
instance lxO:KeyOrd where
 α:=Pt
 blt:=lx
 irrefl:=gJ
 trans:=λ_ _ _=>gK
 negTrans:=λ_ b _ h=>kZ b h
 total:=λ_ _=>e0
def KJ(prog:Program)(w:World):DU prog w lxO where
 at_:=Bg
 ok:=λ_=>True
 dflt:=(0,0)
 fn:=Bg.fn
 keep:=λx k=>x.keep k
 knd:=tuples' true
 room:=λ_=>True
 kind:=λhv h2 h=>lv (T:=.type "int") h2 rfl h λv m=>by
  obtain⟨_,_,_,_,_,_,_,e,g,c,d⟩:=hv v m;exact{_,_,_,_,_,.now,e,g,c,d,rfl}
 cmp:=λ_ hk hx hy h=>sT hk hx hy h
instance stS(prog:Program)(w:World):DU prog w stO where
 at_:=HG
 ok:=λl=>l≠[]
 dflt:=[]
 fn:=λ{h _ _ _} x y=>by
  obtain⟨a,o,i,n,e,g,_,d,p⟩:=x;obtain⟨a',o',i',n',e',g',_,d',p'⟩:=y;have eo:=Option.some.inj (g.symm.trans ((congrArg h.get? (Value.ref.inj (e.symm.trans e'))).trans g'));exact sL p ((Data.seq.inj (d.symm.trans ((congrArg Obj.data eo).trans d'))).1▸p')
 keep:=λ⟨a,o,i,n,e,g,c,d,p⟩ k=>{a,o,i,n,e,k _ _ (by rw[c];decide) g,c,d,sM k p}
 knd:=tuples' false
 room:=λA=>A.units<cLine
 kind:=λhv h2 h=>lv (T:=.type "tuple") h2 rfl h λv m=>by
  obtain⟨p,ne,_,_,⟨il⟩,_,e,g,c,d,pr⟩:=hv v m;cases pr with
  | nil=>exact absurd rfl ne
  | cons z _=>
    obtain⟨_,_,_,_,_,rfl,g2,c2,_⟩:=z;exact{_,_,_,_,_,c2▸(Looks.ld g2).andThen .now,e,g,c,d,rfl}
 cmp:=λhu hk hx hy h=>sQ hu hk hx hy h
end Ts
namespace L2
open PySem PySem.Spec PyProof PyProof.Rows Ts
def Gi(O:KeyOrd)(a:O.α):List O.α->List O.α
 | []=>[a]
 | b::l=>if O.blt b a=true then b::Gi O a l else a::b::l
def DM(O:KeyOrd)(l:List O.α):List O.α:=l.foldr (Gi O) []
theorem gW(a:O.α):∀l,(Gi O a l).Perm (a::l)
 | []=>.refl _
 | b::l=>by
   unfold Gi;split
   ·exact((gW a l).cons b).trans (List.Perm.swap ..)
   ·exact .refl _
theorem e9:∀l,(DM O l).Perm l
 | []=>.refl _
 | a::l=>(gW a (DM O l)).trans ((e9 l).cons a)
open H in
theorem ly(a:O.α):∀l,l.Pairwise O.kle->(Gi O a l).Pairwise O.kle
 | [],_=>Hc _ _
 | b::l,h=>by
   have d:=Ea.mp h;unfold Gi;split
   ·rename_i q
    refine Ea.mpr {λx c=>?_,ly a l d.2};rcases AK.mp ((gW a l).mem_iff.mp c) with rfl | c
    ·exact KeyOrd.kle_of_klt q
    ·exact d.1 x c
   ·rename_i q
    have q:O.kle a b:=KeyOrd.kle_of_not_klt q;refine Ea.mpr {λx c=>?_,h};rcases AK.mp c with rfl | c
    ·exact q
    ·exact KeyOrd.kle_trans q (d.1 x c)
theorem gX:∀l,(DM O l).Pairwise O.kle
 | []=>List.Pairwise.nil
 | a::l=>ly a _ (gX l)
def sU{l m:List O.α}(p:m.Perm l)(u:m.Pairwise O.kle):m=DM O l:=
 (p.trans (e9 l).symm).eq_of_pairwise (λa b _ _ d c=>KeyOrd.kle_antisymm d c) u (gX l)
section
variable{prog:Program}{w:World}{A:Around}{E:Value->Shared->Prop}{s:Shared}{O:KeyOrd}{S:DU prog w O}{T:String}{r d:Addr}{n:Nat}{P:Nat->Value->Prop}{OK:Heap->Prop}
end
section
variable{X:Cx}{O:KeyOrd}{S:DU X.prog X.w O}{VR:Hp->V->O.α->Prop}
def sV{A:List 'p'}{Y:St}{H:Hp}{s:Shared}(I:Ab X A Y H s)(e:∀(v:V) (u:Value) (p:O.α),Aj v u->VR H v p->S.at_ s.heap u p){g:List V}{c:List Value}{f:List O.α}{a:Array Value}(h:Aq g c)(d:Paired (VR H) g f)(m:a.toList.Perm c)(B:a.toList.Pairwise λx y=>∀p q,S.at_ s.heap x p->S.at_ s.heap y q->O.kle p q):∃b,Aq b a.toList/\Paired (VR H) b (DM O f)/\b.length=f.length:=by
 have l:∀{g:List V} {c:List Value} {f:List O.α},Aq g c->Paired (VR H) g f->∃b:List (V×O.α),Paired (λ(z:V×O.α) u=>Aj z.1 u/\VR H z.1 z.2) b c/\b.map (·.2)=f:=by
  intro g c f h;induction h generalizing f with
  | nil=>intro d;cases d;exact{[],.nil,rfl}
  | cons i _ ih=>
    intro d;cases d with
    | cons z d=>
      obtain⟨b,a,j⟩:=ih d;exact{(_,_)::b,.cons ⟨i,z⟩ a,by rw[BX,j]}
 obtain⟨b,a,n⟩:=l h d;obtain⟨i,j,o⟩:=r7 m a;have v:∀{b:List (V×O.α)} {c:List Value},Paired (λ(z:V×O.α) u=>Aj z.1 u/\VR H z.1 z.2) b c->Aq (b.map (·.1)) c/\Paired (VR H) (b.map (·.1)) (b.map (·.2)):=by
  intro b c z;induction z with
  | nil=>exact{.nil,.nil}
  | cons y _ ih=>exact{.cons y.1 ih.1,.cons y.2 ih.2}
 have C:∀{b:List (V×O.α)} {c:List Value},Paired (λ(z:V×O.α) u=>Aj z.1 u/\VR H z.1 z.2) b c->c.Pairwise (λx y=>∀p q,S.at_ s.heap x p->S.at_ s.heap y q->O.kle p q)->(b.map (·.2)).Pairwise O.kle:=by
  intro b c z;induction z with
  | nil=>intro _;exact List.Pairwise.nil
  | @cons a u b us y r ih=>
    intro h;obtain⟨a,l⟩:=Ea.mp h;rw[BX];refine Ea.mpr {λp d=>?_,ih l};obtain⟨b,m,rfl⟩:=B7.mp d;have:∃u'∈us,Aj b.1 u'/\VR H b.1 b.2:=by
     clear ih h a l d y;induction r with
     | nil=>cases m
     | cons b _ ih=>
       rcases AK.mp m with r | r
       ·subst r;exact{_,'d',b}
       ·obtain⟨u',m,q⟩:=ih r;exact{u',by simp[m],q}
    obtain⟨u',m,r',b⟩:=this;exact a u' m _ _ (e _ _ _ y.1 y.2) (e _ _ _ r' b)
 obtain⟨d,a⟩:=v o;have e:i.map (·.2)=DM O f:=sU (by rw[<-n];exact j.map _) (C o B);exact{_,d,by rw[<-e];exact a,by rw[Ag,j.length_eq,<-n,Ag]}
abbrev IH(X:Cx)(S:DU X.prog X.w O)(VR:Hp->V->O.α->Prop)(K:FG):List V->Hp->VK->Prop:=λxs H Q=>∃(a:Addr) (vs:List V) (ps:List O.α),xs=[.ref a]/\AV K H a vs/\Paired (VR H) vs ps/\ps.length<128/\(2<=ps.length->∀p∈ps,S.ok p)/\∀p vs',H p=none->Paired (VR H) vs' (DM O ps)->Q (.ref p) (Ad H p (.lst vs'))
theorem lz{α β:Type}{F:α->β->Prop}:∀{a:List α} {d:List β},Paired F a d->∀b∈a,∃c∈d,F b c
 | _,_,.nil,b,h=>by cases h
 | _,_,.cons x r,b,h=>by
   rcases AK.mp h with e | e
   ·subst e;exact{_,'d',x}
   ·obtain⟨c,m,z⟩:=lz r b e;exact{c,by simp[m],z}
theorem lA:∀{a:List V} {us:List Value},Aq a us->∀u∈us,∃v∈a,Aj v u
 | _,_,.nil,b,h=>by cases h
 | _,_,.cons x r,b,h=>by
   rcases AK.mp h with e | e
   ·subst e;exact{_,'d',x}
   ·obtain⟨c,m,z⟩:=lA r b e;exact{c,by simp[m],z}
def lB(c:∀(j:List 'p') (s:Shared) (Y:St) (H:Hp) (v:V) (u:Value) (p:O.α),Ab X j Y H s->Aj v u->VR H v p->S.at_ s.heap u p)(l:∀b:Around,b.units<=X.A.units+4->S.room b) :
 Co X (.builtin "sorted") (IH X S VR X.K):=by
 intro j s Y H b us Q I r h;obtain⟨a,f,i,rfl,e,g,d,b,q⟩:=h;obtain⟨u,rfl,i⟩:=bq r;cases i;obtain⟨h,f,d,n⟩:=I.list e;have m:=f.length;have i:=Paired.length g;refine sJ (S:=S) l d.isList (λu m=>?_) 'o' λd x n=>?_
 ·obtain⟨v,mv,e⟩:=lA f u m
  obtain⟨p,i,vr⟩:=lz g v mv;exact{p,λl=>b 'o' p i,c _ _ _ _ _ _ _ I e vr}
 ·obtain⟨i,r,l,m⟩:=sV (S:=S) I (λv u p a b=>c _ _ _ _ v u p I a b) f g x n
  obtain⟨e,c⟩:=sortedAll_at s.heap h d;refine{.ref (s.heap.objs.size+1),_,I.laid (t':=s.toks) (a:=s.heap.objs.size+1) (o:=.lst i) (λb o e=>sortedAll_old e) (Ff _) ?_,rfl,q _ _ (I.hok.fresh (Ff _)) l};exact{by rw[m];exact BC (eA 'o'),d.toList,e,r,c}
end
abbrev Pr1(H:Hp)(v:V)(p:P2):Prop:=∃b,v=.ref b/\H b=some (.tup [.int p.1,.int p.2])
def lD(I:Ab X j Y H s)(c:H b=some (.tup [.int p.1,.int p.2])):Bg s.heap (.ref b) p:=by
 obtain⟨e,a,⟨o,g,f,n,d⟩,_⟩:=I.tuple (AN.of c);cases a with
 | cons e a=>cases a with
   | cons h a=>
     cases a;obtain⟨c,rfl⟩:=e;obtain⟨i,rfl⟩:=h;exact⟨b,o,n,c,i,rfl,g,f,d⟩
def sW(a:List P2):DM lxO a=CH a:=sd (e9 (O:=lxO) a) ((gX (O:=lxO) a).imp λh=>r5 h)
def xE:Co X (.builtin "sorted") (λl H Q=>∃(a:Addr) (g:List V) (f:List P2),l=[.ref a]/\AV X.K H a g/\PrV H g f/\f.length<128/\∀p c,H p=none->PrV H c (CH f)->Q (.ref p) (Ad H p (.lst c))):=by
 intro j s Y H l us Q I r h;obtain⟨a,g,f,rfl,m,i,d,q⟩:=h;exact lB (S:=KJ X.prog X.w) (VR:=Pr1) (λj s Y H v u p I r ⟨b,e,h⟩=>by subst e;cases r;exact lD I h) (λ_ _=>trivial) j s Y H _ us Q I r {a,g,f,rfl,m,i,d,λ_ _ _=>trivial,λp c i w=>q p c i (by rw[<-sW];exact w)}
instance StV(H:Hp)(v:V)(l:List P2):Prop:=∃b us,v=.ref b/\H b=some (.tup us)/\PrV H us l
theorem lE(I:Ab X f Y H s):∀{us:List V} {a:List Value} {l:List P2},Aq us a->PrV H us l->Paired (Bg s.heap) a l
 | _,_,_,.nil,.nil=>.nil
 | _,_,_,.cons r c,.cons z a=>by
   obtain⟨b,e,d⟩:=z;rw[e] at r;cases r;exact .cons (lD I d) (lE I c a)
def sX(a:List 'p')(s:Shared)(Y:St)(H:Hp)(v:V)(u:Value)(l:List P2)(I:Ab X a Y H s)(r:Aj v u)(z:StV H v l):HG s.heap u l:=by
 obtain⟨b,us,e,h,c⟩:=z;rw[e] at r;cases r;obtain⟨i,f,⟨o,g,e,n,d⟩,_⟩:=I.tuple (AN.of h);exact{b,o,_,n,rfl,g,e,d,by simpa using lE I f c}
def xF{k:Nat}(b:AQ k X.A):Co X (.builtin "sorted") (IH X (stS X.prog X.w) StV X.K):=
 lB (S:=stS X.prog X.w) sX λa h=>by
  have:=b.units;show a.units<cLine;omega
def Ei(l:List P2):List Ak:=l.map λp=>.t [.inl p.1,.inl p.2]
abbrev Ao(l:List P2):D:=.tup (l.map CW)
def ES:List D->Option (List (List P2))
 | []=>some []
 | .tup m::l=>(DL m).bind λp=>(ES l).map λr=>p::r
 | _=>none
theorem gY:∀a:List (List P2),ES (a.map Ao)=some a
 | []=>rfl
 | p::a=>by
   show (DL (p.map CW)).bind (λq=>(ES (a.map Ao)).map λr=>q::r)=_;rw[gO,gY a];rfl
theorem lF{K:FG}{A:Addr->Prop}{H:Hp}:∀{l:List D} {c:List V} {a:List (List P2)},ES l=some a->aa K A H l c->Paired (StV H) c a
 | [],c,a,e,h=>by cases e;rw[aa.nil.mp h];exact .nil
 | d::l,c,a,e,h=>by
   obtain⟨v,r,g,f,i⟩:=aa.cons.mp h;cases d with
   | tup m=>
     have e:(DL m).bind (λp=>(ES l).map λr=>p::r)=some a:=e;cases q:DL m with
     | none=>rw[q] at e;cases e
     | some p=>
       rw[q] at e;cases a:ES l with
       | none=>rw[a] at e;cases e
       | some b=>
         rw[a] at e;cases e;obtain⟨b,j,h,l,d⟩:=Is.tup_iff.mp f;rw[g];exact .cons {b,j,h,l,gP q d} (lF a i)
   | _=>cases e
theorem lG{K:FG}{A:Addr->Prop}{H:Hp}:∀{b:List (List P2)} {a:List V},Paired (StV H) a b->aa K A H (b.map Ao) a
 | _,_,.nil=>aa.nil.mpr rfl
 | _,_,.cons h t=>aa.cons.mpr {_,_,rfl,by
   obtain⟨b,us,e,d,c⟩:=h;rw[e];exact Is.tup d (gQ c),lG t}
theorem lH:∀a:List (List P2),D.immL (a.map Ao)=true
 | []=>rfl
 | p::a=>by simp[D.immL,D.imm,gR p,lH a]
instance okS(ps:List (List P2)):Bool:=decide (ps.length<128)&&(decide (ps.length<2)||ps.all λp=>!p.isEmpty)
def sY(h:okS ps=true):ps.length<128/\(2<=ps.length->∀p∈ps,p≠[]):=by
 unfold okS at h;simp only[FW,Bool.or_eq_true,decide_eq_true_eq,List.all_eq_true] at h;refine{h.1,λl p m z=>?_};rcases h.2 with q | q
 ·omega
 ·have:=q p m
  rw[z] at this;cases this
def Gj:List D->Option D
 | [.lst l]=>(ES l).bind λps=>if okS ps=true then some (.lst ((DM stO ps).map Ao)) else none
 | _=>none
section
variable{X:Cx}{S:Type}{W:Wd S}{c:Dx W}{K:FG}{A:Addr->Prop}{H:Hp}
open H in
def xG{K:FG}(a:c.K=K):Ct c (IH X (stS X.prog X.w) StV K) Gj:=by
 subst a;intro l f H b d Q g z e q;unfold Gj at e;split at e
 ·rename_i m
  cases b:ES m with
  | none=>rw[b] at e;cases e
  | some f=>
    rw[b] at e;have e:(if okS f=true then some (D.lst ((DM stO f).map Ao)) else none)=some d:=e;split at e
    ·rename_i a
     cases e;obtain⟨o1,o2⟩:=sY a;obtain⟨v,r,d,i,l⟩:=aa.cons.mp z;obtain⟨a,us,m,_,j,h⟩:=Is.lst_iff.mp i;rw[aa.nil.mp l,m] at d;exact{a,us,f,d,.of j,lF b h,o1,o2,λp d a w=>q _ _ (Af.laid a) (aJ g a) (AB.lst g a (λ_ n=>n) (lH _) (lG (A:=λb=>¬W.mv b) w))}
    ·cases e
 ·cases e
end
section
variable{X:Cx}{S:Type}{W:Wd S}{c:Dx W}{A3:List 'p'}{Y:St}{H:Hp}{s:Shared}
def KL{S:Type}{W:Wd S}(c:Dx W)(f:AO S)(F:Ax S):TS:=λD Y H=>∃Z st,As c H Y Z/\W.ok st H/\
 Aa (f Z st) (λb st'=>∀H',Af W H H'->W.ok st' H'->if b=true then Aa (F Z st') (B2 c D Y Z H') (CF c) else D.nx Y H') λx st'=>∀H',Af W H H'->W.ok st' H'->c.Ex x st' H'
def sZ(a:DT X c e f)(b:BK X c body F):PS X (.If e body [] pos) (KL c f F):=
 (eg a b ef).imp λD Y H hI56=>by
  obtain⟨Z,a,R,e,w⟩:=hI56;refine{Z,a,R,e,aj w (λb d q f e' a=>?_) λx d q=>q};have q:=q f e' a;cases b with
  | true=>rw[if_pos rfl] at q;exact{Z,d,R.ext e e',a,q}
  | false=>rw[if_neg BA] at q;exact q
open H in
def gZ{e:Stmt}{a:List Stmt}{t:TS}{N:St->Hp->Prop}{D:Dp}(h:PS X e t)(I:Ab X A3 Y H s)(g:t { nx:=N,rt:=D.rt } Y H)(k:∀s' b d,Ab X A3 b d s'->N b d->wpAny 'e' X.A (execs a X.env) (SP X A3 D) X.xe s'):wpAny 'e' X.A (execs (e::a) X.env) (SP X A3 D) X.xe s:=by
 refine wpAny_execs_cons (ai (h A3 s Y H _ I g) λf h q=>?_);cases f with
 | next=>
   obtain⟨b,d,a,n⟩:=q;exact k h b d a n
 | ret v=>exact q
 | brk=>obtain⟨_,_,_,z⟩:=q;exact z.elim
 | cont=>obtain⟨_,_,_,z⟩:=q;exact z.elim
def Is.top{K:FG}{A:Addr->Prop}{d:D}{v:V}(h:Is K A H d v):Is K (λ_=>True) H d v:=h.mono {λ_ _ z _=>z,λb o _ z=>⟨trivial,z⟩}
def II(l:List D):Option D:=if l.length<=sizeLine then some (.tup l) else none
end
section
variable{X:Cx}{S:Type}{W:Wd S}{c:Dx W}
def JS(c:Dx W)(b:Addr):Prop:=¬W.mv b/\c.H0 b=none
instance tN(c:Dx W)(f:Fn S):TE:=λY H Q=>∃Z st,As c H Y Z/\W.ok st H/\
 Aa (f Z st) (λd st'=>∀v H',Af W H H'->W.ok st' H'->Is c.K (JS c) H' d v->Q v H') λx st'=>∀H',Af W H H'->W.ok st' H'->c.Ex x st' H'
instance DN(X:Cx){S:Type}{W:Wd S}(c:Dx W)(e:Expr)(f:Fn S):Prop:=PE X e (tN c f)
instance tNs(c:Dx W)(f:AY S):TA:=λY H Q=>∃Z st,As c H Y Z/\W.ok st H/\
 Aa (f Z st) (λl st'=>∀vs H',Af W H H'->W.ok st' H'->aa c.K (JS c) H' l vs->Q vs H') λx st'=>∀H',Af W H H'->W.ok st' H'->c.Ex x st' H'
instance DNs(X:Cx){S:Type}{W:Wd S}(c:Dx W)(es:List Expr)(f:AY S):Prop:=PA X es (tNs c f)
def xH:DNs X c [] (F8 S):=bg.imp λY H Q ⟨Z,b,R,a,w⟩=>w [] H Af.refl a (aa.nil.mpr rfl)
def xI(h:DN X c e f)(b:DNs X c es r)(a:autoParam 's' uR):DNs X c (e::es) (Cp S f r):=
 (aT h b a).imp λY H Q hI57=>by
  obtain⟨Z,a,R,b,w⟩:=hI57;refine{Z,a,R,b,aj (ae.mp w) (λd a q v H1 e f z=>?_) λx a q=>q};refine{Z,a,R.ext b e,f,aj (ae.mp q) (λl b q g H2 d a h=>?_) λx b q H2 d a=>q H2 (e.trans d) a};exact q (v::g) H2 (e.trans d) a (aa.cons.mpr {v,g,rfl,z.ext d f (λb n=>n.1),h})
def JT(S:Type)(i:Nat):Fn S:=λZ st=>Aw (own? Z i) st
open H in
def xJ{i:Nat}{x:Str}(h:PE X (.Name x p) (Bx i)):DN X c (.Name x p) (JT S i):=h.imp λY H Q hI58=>by
 obtain⟨Z,a,R,h,w⟩:=hI58;obtain⟨d,e,q⟩:=ar.mp w;unfold own? at e;cases a:Z[i]? with
 | none=>rw[a] at e;cases e
 | some s=>
   rw[a] at e;have z:=R.slot i s a;cases s with
   | no=>cases e
   | hnd=>cases e
   | bor d'=>
     have e:(if d'.imm=true then some d' else none)=some d:=e;split at e
     ·rename_i m
      cases e;obtain⟨v,g,a⟩:=z;exact{v,aY g,q v H Af.refl h (Is.ofImm m a)}
     ·cases e
   | own d'=>
     have e:(if d'.flat=true then some d' else none)=some d:=e;split at e
     ·rename_i m
      cases e;obtain⟨a,g,n,f,t⟩:=z;have i:Is c.K 'w' H d (.ref a):=(t.mono (A':=λb=>¬W.mv b) {λ_ _ z _=>z,λb o a z=>⟨a.1,z⟩} λo z=>z).isTop n.1;exact{_,aY g,q _ H Af.refl h (fR i m ⟨n.1,f⟩)}
     ·cases e
open H in
def xK{x1}(h:DNs X c es f):DN X c (.Tuple es x1 pos) (fA S II f):=(iF h).imp λY H Q hI59=>by
 obtain⟨Z,b,R,a,w⟩:=hI59;refine{Z,b,R,a,aj (ae.mp w) (λl b q d H1 e a z=>?_) λx b q=>q};obtain⟨d,f,q⟩:=ar.mp q;unfold II at f;split at f
 ·rename_i h
  cases f;exact{by rw[<-z.length];exact h,λp d=>q _ _ (e.trans (Af.laid d)) (aJ a d) (Is.tup aq (z.ext (Af.laid d) a λb n=>n.1))}
 ·cases f
def JU(S:Type)(f:Fn S):Ax S:=λZ st=>(f Z st).bind λd st1=>.ok (.rt d) st1
def xL(h:DN X c e f):DS X c (.Return (some e) pos) (JU S f):=
 (cC h).imp λD Y H ⟨Z,a,R,b,w⟩=>{Z,a,R,b,aj (ae.mp w) (λd b q v H1 e a z=>q v H1 (e.f0 R) a z) λx b q H1 e a=>q H1 (e.f0 R) a}
section
variable{Q:D->S->Prop}{QF:Fl->S->Prop}{E:AG->S->Prop}{Z:Ae}{st:S}{f:Fn S}{i:Nat}
def lI:Aa (JT S i Z st) Q E↔∃d,own? Z i=some d/\Q d st:=ar
def lJ:Aa (JU S f Z st) QF E↔Aa (f Z st) (λd a=>QF (.rt d) a) E:=ae
end
end
def ln1{α:Type}{us:List α}(h:us.length=1):∃a,us=[a]:=by
 match us,h with
 | [a],_=>exact⟨a,rfl⟩
def ln2{α:Type}{us:List α}(h:us.length=2):∃a b,us=[a,b]:=by
 match us,h with
 | [a,b],_=>exact⟨a,b,rfl⟩
def ln3{α:Type}{us:List α}(h:us.length=3):∃a b c,us=[a,b,c]:=by
 match us,h with
 | [a,b,c],_=>exact⟨a,b,c,rfl⟩
def ln4{α:Type}{us:List α}(h:us.length=4):∃a b c d,us=[a,b,c,d]:=by
 match us,h with
 | [a,b,c,d],_=>exact⟨a,b,c,d,rfl⟩
def ln5{α:Type}{us:List α}(h:us.length=5):∃a b c d e,us=[a,b,c,d,e]:=by
 match us,h with
 | [a,b,c,d,e],_=>exact⟨a,b,c,d,e,rfl⟩
instance At(K:FG)(x:Str)(st:Stmt):Prop:=∃f fd,nsIn K mainGlobals x=some (some (.ref f))/\Cr K x x st f fd
def HH(x:Str)(st:Stmt)(ps:List Str):Prop:=∀(kV doc pm:Value) (an:Option Addr) (cdv ct:Value) (us:List Value),us.length=ps.length->bindArgs (fnOf x x (FE st) (B1 st) (AI st) .none kV doc pm an cdv ct) {us,[]}=pure (ps.zip us)
section
variable{K:FG}{h:Heap}{mg:Str->Option Value}{x:Str}{st:Stmt}{N ps:List Str}{k j:Nat}{P:Program}{w:World}{base:Heap}{sp:Sp}
def Ce.up(C:Ce P w K mg base k x ps sp)(g:autoParam (k<=j) uD):Ce P w K mg base j x ps sp:=by
 obtain⟨f,e,a,b,c,d⟩:=C.ex;exact{f,e,a,b,c,d.mono g}
def aK(P:Program)(w:World)(base:Heap)(X:K.In h)(G:h.Ns mainGlobals mg){B:Ax Unit}(a:At K x st)(S:CQ N ps (AI st))(g:∀(f:Addr) (c:Value) (A:Around) (b:List Env) (s:Shared) (H:Hp) (E:XK),AQ k (A.deeper (envOfC x (AI st) s.heap.objs.size f c))->BK (Cs CX0 P w K mg base N x (AI st) f c A b s H E).nox (DQ K H) (B1 st) B)(e:HH x st ps:=by (intro _ _ _ _ _ _ us d;first | (obtain⟨_,rfl⟩:=ln1 d;rfl) | (obtain⟨_,_,rfl⟩:=ln2 d;rfl) | (obtain⟨_,_,_,rfl⟩:=ln3 d;rfl) | (obtain⟨_,_,_,_,rfl⟩:=ln4 d;rfl) | (obtain⟨_,_,_,_,_,rfl⟩:=ln5 d;rfl))) :
 Ce P w K mg base (k+1) x ps (Ed K (Bv N.length ps.length B)):=by
 obtain⟨f,d,n,F⟩:=a;exact{f,d,mg_of X G n,F.kp,F.binds e,Cr.d0 F S λc A b s H E a=>g f c A b s H E a}
def dO{b:Type}{W:Wd b}(P:Program)(w:World)(base:Heap)(X:K.In h)(G:h.Ns mainGlobals mg){B:Ax b}(a:At K x st)(S:CQ N ps (AI st))(g:∀(f:Addr) (c:Value) (A:Around) (b:List Env) (s:Shared) (H:Hp) (E:XK),AQ k (A.deeper (envOfC x (AI st) s.heap.objs.size f c))->BK (Cs CX0 P w K mg base N x (AI st) f c A b s H E).nox (DF W K H) (B1 st) B)(e:HH x st ps:=by (intro _ _ _ _ _ _ us d;first | (obtain⟨_,rfl⟩:=ln1 d;rfl) | (obtain⟨_,_,rfl⟩:=ln2 d;rfl) | (obtain⟨_,_,_,rfl⟩:=ln3 d;rfl) | (obtain⟨_,_,_,_,rfl⟩:=ln4 d;rfl) | (obtain⟨_,_,_,_,_,rfl⟩:=ln5 d;rfl))) :
 Ce P w K mg base (k+1) x ps (spS W K (El N.length ps.length B)):=by
 obtain⟨f,d,n,F⟩:=a;exact{f,d,mg_of X G n,F.kp,F.binds e,Cr.dS F S λc A b s H E a=>g f c A b s H E a}
def g7(P:Program)(w:World)(base:Heap)(X:K.In h)(G:h.Ns mainGlobals mg)(a:At K x st)(d:∀f b,Cr K x x st f b->BS P w K mg base CX0 k f b ps sp)(e:HH x st ps:=by (intro _ _ _ _ _ _ us c;first | (obtain⟨_,rfl⟩:=ln1 c;rfl) | (obtain⟨_,_,rfl⟩:=ln2 c;rfl) | (obtain⟨_,_,_,rfl⟩:=ln3 c;rfl) | (obtain⟨_,_,_,_,rfl⟩:=ln4 c;rfl) | (obtain⟨_,_,_,_,_,rfl⟩:=ln5 c;rfl))):Ce P w K mg base k x ps sp:=by
 obtain⟨f,b,n,F⟩:=a;exact{f,b,mg_of X G n,F.kp,F.binds e,d f b F}
def s5{b:Type}{W:Wd b}(P:Program)(w:World)(base:Heap)(X:K.In h)(G:h.Ns mainGlobals mg){B:Ax b}(a:At K x st)(S:CQ N ps (AI st))(g:∀(f:Addr) (c:Value) (A:Around) (b:List Env) (s:Shared) (H:Hp) (E:XK),AQ k (A.deeper (envOfC x (AI st) s.heap.objs.size f c))->BK (Cs CX0 P w K mg base N x (AI st) f c A b s H E).nox (DF W K H) (B1 st) B)(e:HH x st ps:=by (intro _ _ _ _ _ _ us d;first | (obtain⟨_,rfl⟩:=ln1 d;rfl) | (obtain⟨_,_,rfl⟩:=ln2 d;rfl) | (obtain⟨_,_,_,rfl⟩:=ln3 d;rfl) | (obtain⟨_,_,_,_,rfl⟩:=ln4 d;rfl) | (obtain⟨_,_,_,_,_,rfl⟩:=ln5 d;rfl))) :
 Ce P w K mg base (k+1) x ps (spL W K (FN N.length ps.length B)):=by
 obtain⟨f,d,n,F⟩:=a;exact{f,d,mg_of X G n,F.kp,F.binds e,Cr.dL F S λc A b s H E a=>g f c A b s H E a}
end
open PySem PySem.Spec PyProof PyProof.Rows
open PySem.SeqAt
section
variable{X:Cx}{S:Type}{W:Wd S}{c:Dx W}
end
mutual
noncomputable def D.tp:D->Bool
 | .tup l=>D.tpL l
 | .non=>true
 | .bl _=>true
 | .int _=>true
 | .str _=>true
 | _=>false
noncomputable def D.tpL:List D->Bool
 | []=>true
 | d::l=>d.tp&&D.tpL l
end
def CP(H:Hp):Hp:=λb=>match H b with
 | some (.tup u)=>some (.tup u)
 | _=>none
def g8(h:H b=some (.tup u)):CP H b=some (.tup u):=by unfold CP;rw[h]
open H in
def g9(h:CP H b=some o):∃u,o=.tup u/\H b=some (.tup u):=by
 unfold CP at h;split at h
 ·rename_i u e;cases h;exact⟨u,rfl,e⟩
 ·cases h
def dP(h:H b=none):CP H b=none:=by unfold CP;rw[h]
section
variable{K:FG}{A A':Addr->Prop}{H:Hp}
mutual
theorem Is.tp:∀{d:D} {v:V},d.tp=true->Is K A H d v->Is K A' (CP H) d v
 | .non,_,_,h=>h
 | .bl _,_,_,h=>h
 | .int _,_,_,h=>h
 | .str _,_,_,h=>h
 | .tup l,v,m,h=>by
   obtain⟨a,b,e,q,i⟩:=h;exact{a,b,e,g8 q,aa.tp m i}
 | .lst _,_,m,_=>nomatch m
 | .dct _ _,_,m,_=>nomatch m
 | .fl _,_,m,_=>nomatch m
 | .fd _ _,_,m,_=>nomatch m
theorem aa.tp:∀{l:List D} {a:List V},D.tpL l=true->aa K A H l a->aa K A' (CP H) l a
 | [],_,_,h=>h
 | d::l,a,m,h=>by
   have m:(d.tp&&D.tpL l)=true:=m;rw[FW] at m;obtain⟨v,r,e,i,j⟩:=aa.cons.mp h;exact aa.cons.mpr {v,r,e,Is.tp m.1 i,aa.tp m.2 j}
end
end
instance spF(K:FG)(G:List D->Ap Unit D):Sp:=λvs H Q _=>∃l,aa K (λ_=>True) H l vs/\D.tpL l=true/\
 Aa (G l) (λd _=>∀v H' H1,BH H H'->BH H1 H'->(∀b o u,H1 b=some (.frz o u)->H b=none)->Is K (λb=>H b=none) H1 d v->Q v H') λ_ _=>False
theorem Bb.ex(x:Bb P w H h a o):∃b,h.get? a=some b:=by
 cases o with
 | lst a=>obtain⟨_,_,_,_,e⟩:=x;exact{_,e}
 | tup a=>obtain⟨_,_,_,_,_,e,_⟩:=x;exact{_,e}
 | dK a=>obtain⟨_,_,_,_,o,_,_,e,_⟩:=x;exact{_,e}
 | dT a=>obtain⟨_,_,_,_,o,_,_,e,_⟩:=x;exact{_,e}
 | set S n=>obtain⟨o,_,_,_,e,_⟩:=x;exact{_,e}
 | ins C dx a=>obtain⟨_,_,_,e,_⟩:=x;exact{_,e}
 | own y=>exact x
 | xd a=>obtain⟨_,⟨_,_,_,e,_⟩,_⟩:=x;exact{_,e}
 | rng a c=>obtain⟨_,_,_,e⟩:=x;exact{_,e}
 | frz b u=>obtain⟨e,_⟩:=x;exact{_,e}
 | tbl a=>exact{_,x}
 | met f y=>exact{_,x}
 | ext φ=>exact x.2.1
def Fm(H H':Hp):Hp:=λb=>match H b with
 | some o=>some o
 | none=>H' b
def bL(h:H b=some o):Fm H H' b=some o:=by unfold Fm;rw[h]
def fe(h:H b=none):Fm H H' b=H' b:=by unfold Fm;rw[h]
section
variable{P:Program}{w:World}{K:FG}{mg:Str->Option Value}{base:Heap}{k:Nat}{f:Addr}{fd:FuncData}{ps:List Str}{G:List D->Ap Unit D}
def lK{H e:Hp}{h:Heap}(d:Bd P w H h)(a:∀b o,h.get? b=some o->CP H b=none->e b=none)(c:∀b g,CP H b=some (.tup g)->e b=some (.tup g)) :
 ∀b o,e b=some o->H b=none\/∃u,o=.tup u/\H b=some (.tup u):=λb o e=>by
 cases q:CP H b with
 | some u=>
   obtain⟨u,rfl,h⟩:=g9 q;rw[c b u q] at e;cases e;exact .inr ⟨u,rfl,h⟩
 | none=>
   cases i:H b with
   | none=>exact .inl rfl
   | some o2=>
     obtain⟨c,h⟩:=(d b o2 i).ex;rw[a b c h q] at e;cases e
open H in
def BS.newF(F:BS P w K mg base CX0 k f fd ps (Ed K G)):BS P w K mg base CX0 k f fd ps (spF K G):=by
 refine{λp H Q E ⟨l,i,_,q⟩=>F.len p H (λ_ _=>True) E {l,i,aj q (λ_ _ _ _ _ _ _=>trivial) λ_ _ z=>z},λA c s H d us p Q E y g j x hI132=>?_};obtain⟨l,i,r,q⟩:=hI132;have n:GF P w K mg base A c s (CP H):={g.frames,g.mod,λb o e=>{(g.bs b o e).1,dP (g.bs b o e).2},g.bsz,g.funs,λb j=>dP (g.frf b j),λa o e=>by
  obtain⟨u,rfl,m⟩:=g9 e;exact g.hok a _ m,g.bare}
 refine codeAny_mono (F.run A c s (CP H) d us p (λv h=>(∀b o,s.heap.get? b=some o->CP H b=none->h b=none)->Q v (Fm H h)) E y n j x {l,aa.tp r i,aj q (λd _ q v h i z c=>?_) λ_ _ z=>z}) λr s' l=>?_
 ·have p:=lK g.hok c λb d e=>i b _ e
  refine q v _ h (λb o e=>bL e) (λb o e=>?_) (λb o u e=>?_) (z.mono {λb o e _=>e,λb o n e=>{?_,e}})
  ·rcases p b o e with n | ⟨u,rfl,m⟩
   ·rw[fe n];exact e
   ·exact bL m
  ·rcases p b _ e with n | ⟨u,z,_⟩
   ·exact n
   ·cases z
  ·rcases p b o e with i | ⟨u,rfl,m⟩
   ·exact i
   ·rw[g8 m] at n;cases n
 ·cases r with
  | error e=>exact l
  | ok i=>
    cases i with
    | ret u=>
      obtain⟨v,h,B,r,i,x,y,A⟩:=l;have c:∀b o,s.heap.get? b=some o->CP H b=none->h b=none:=λb o e n=>i.free b o e n 'd'
      have p:=lK g.hok c i.tups;have s:∀b o,h b=some o->Fm H h b=some o:=λb o e=>by
       rcases p b o e with n | ⟨u,rfl,m⟩
       ·rw[fe n];exact e
       ·exact bL m
      refine{v,Fm H h,B,r,{λb o e n=>i.keep b o e (dP n),λb o e n=>i.slot b o e (dP n),λb o e n h=>by rw[fe n];exact i.free b o e (dP n) h,i.there,λb d e=>bL e,λb o u e=>bL e,λb ps e=>{#[],by rw[bL e];simp}},λa o e=>?_,y,A c};cases h:H a with
      | none=>
        rw[fe h] at e;exact(x a o e).stay (λb u _ q=>q) (λb e=>s b _ e) λb d e=>s b _ e
      | some o2=>
        rw[bL h] at e;have e:o2=o:=Option.some.inj e;subst e;by_cases t:∃d,o2=HO.tup d
        ·obtain⟨d,rfl⟩:=t
         exact x a _ (i.tups a d (g8 h))
        ·have o:∀b c,H b=some c->(¬∃d,c=HO.tup d)->CP H b=none:=λb c e n=>by
          cases q:CP H b with
          | none=>rfl
          | some p=>
            obtain⟨u,_,m⟩:=g9 q;rw[e] at m;cases m;exact(n ⟨u,rfl⟩).elim
         refine(g.hok a o2 h).stay (λb u j e=>?_) (λb e=>bL e) λb d e=>bL e
         have m:∃c,H b=some c/\¬∃d,c=HO.tup d:=by
          rcases j with rfl | j
          ·exact{_,h,t}
          ·exact{_,j,λ⟨_,z⟩=>nomatch z}
         obtain⟨c,a,d⟩:=m;refine i.keep b u e (o b c a d) (λj=>?_) 'd';rw[g.frf b j] at a;cases a
    | next=>exact l
    | brk=>exact l
    | cont=>exact l
def xM{p l:Addr}:∀(d:Dr) (H c:Hp),(Ef p l).ok d H->(∀b o,(Ef p l).mv b->H b=some o->c b=some o)->(Ef p l).ok d c:=λ_ _ _ ⟨a,b,c⟩ k=>{k _ _ (.inl rfl) a,k _ _ (.inr rfl) b,c}
end
section
variable{X:Cx}{S:Type}{W:Wd S}{c:Dx W}{A3:List 'p'}{Y:St}{H:Hp}{s:Shared}{Z:Ae}{i:Nat}
def xN{k:Nat}{x:Str}(C:Ce X.prog X.w X.K X.mg X.base k x ps (Ed X.K G))(l:AQ k X.A)(d:Gl X x)(f:PA X (e::es) t)(b:autoParam 'u' uD)(j:autoParam 's' uR)(a:autoParam 'i' uR):PE X (.Call (.Name x p) (e::es) [] pos) (F5 (spF X.K G) [] E0 t):=by
 obtain⟨n,m,e,g,h,F⟩:=C.ex;exact cY (E:=E0) F.newF l d e g h .nil da f b j a
def Ab.thaw(I:Ab X A3 Y H s)(h:H b=some (.frz o (.lst q)))(y:∀o u,X.H₀ b≠some (.frz o u)):Ab X A3 Y (Ad H b (.lst q)) s:=by
 have l:∀c v,H c=some v->(∀o u,v≠.frz o u)->c≠b:=λc v e n z=>by subst z;rw[h] at e;cases e;exact n _ _ rfl
 have j:∀c,H c=none->c≠b:=λc e z=>by subst z;rw[h] at e;cases e
 have f:∀c a,H c=some (.own a)->Ad H b (.lst q) c=some (.own a):=λc a e=>by rw[af (l c _ e λ_ _ z=>nomatch z)];exact e
 have d:∀c g,H c=some (.tup g)->Ad H b (.lst q) c=some (.tup g):=λc a e=>by rw[af (l c _ e λ_ _ z=>nomatch z)];exact e
 refine{I.ok,I.os,I.bare,{I.base.keep,I.base.slot,λc o e n m=>?_,I.base.there,λc g e=>d c g (I.base.tups c g e),λc o u e=>?_,λc g e=>?_},I.loc,I.cell,?_,λx c e=>?_,λp r=>?_,λa o e=>?_,I.len}
 ·have z:=I.base.free c o e n m
  rw[af (j c z)];exact z
 ·rw[af (λz=>y o u (by rw[<-z];exact e))];exact I.base.frzs c o u e
 ·obtain⟨m,z⟩:=I.base.tbls c g e
  exact{m,by rw[af (l c _ z λ_ _ z=>nomatch z)];exact z}
 ·rw[af (j _ I.free)];exact I.free
 ·rw[af (j _ (I.freeC x c e))];exact I.freeC x c e
 ·obtain⟨l,g,m⟩:=I.pin p r
  exact{l,by rw[af (j _ g)];exact g,m}
 ·by_cases z:a=b
  ·subst z
   rw[aq] at e;cases e;exact Bb.stay (I.hok _ _ h).2 (λ_ _ _ e=>e) (λc e=>f c _ e) d
  ·rw[af z] at e
   exact(I.hok a o e).stay (λ_ _ _ e=>e) (λc e=>f c _ e) d
def As.setNo(R:As c H Y Z):As c H (Y.set i (some v)) (Z.set i .no):=by
 have f:∀b,Ow (Y.set i (some v)) (Z.set i .no) b->Ow Y Z b:=λb hI60=>by
  obtain⟨j,e,g,d⟩:=hI60;rcases aA g with⟨_,z⟩ | ⟨n,z⟩
  ·cases z
  ·rw[Ci (Ne.symm n)] at d
   exact⟨j,e,z,d⟩
 have k:A9 (Av c Y Z) (Av c (Y.set i (some v)) (Z.set i .no)) H H:={λ_ _ z _=>z,λb o a z=>{{a.1,λw=>a.2.1 (f b w),a.2.2},z}};refine{by rw[DD,DD];exact R.len,R.frame,λj s b=>?_,R.avl,λj p a e e' g d h l=>?_}
 ·rcases aA b with⟨_,z⟩ | ⟨n,z⟩
  ·subst z;trivial
  ·rw[Ci (Ne.symm n)]
   have q:=R.slot j s z;cases s with
   | no=>trivial
   | bor e=>obtain⟨v',b,f⟩:=q;exact{v',b,f.mono k}
   | own e=>obtain⟨a,b,m,f,t⟩:=q;exact{a,b,m,f,t.mono k λo z=>z}
   | hnd=>exact q
 ·rcases aA g with⟨_,z⟩ | ⟨n,z⟩
  ·cases z
  ·rcases aA d with⟨_,z'⟩ | ⟨b,z'⟩
   ·cases z'
   ·rw[Ci (Ne.symm n)] at h
    rw[Ci (Ne.symm b)] at l;exact R.uniq j p a e e' z z' h l
def Gk:D->Option (List D×List D)
 | .fl (.fl l::r)=>some (l,r)
 | _=>none
def s6(h:Gk d=some p):d=.fl (.fl p.1::p.2):=by
 unfold Gk at h;split at h
 ·cases h;rfl
 ·cases h
def HI(S:Type)(i ih ist im:Nat)(G:List D->Ap Unit D)(ft:AO S)(Fa:Ax S):Ax S:=λZ st=>match rd Z ih,rd Z ist,rd Z im with
 | some a,some b,some d=>if D.tpL [a,b,d]=true/\i<Z.length/\i≠ist then match G [a,b,d] with
  | .ok e _=>match Gk e with
    | some (l,r)=>if l.length+2<sizeLine/\r.length+3<sizeLine then (ft (Z.set i (.bor e)) st).bind λt st1=>if t=true then (Fa (Z.set i (.bor e)) st1).bind λfl st2=>match fl with
     | .rt d=>.ok (.rt d) st2
     | _=>.bad
      else .ok (.nx (Z.set i .no)) st1 else .bad
    | none=>.bad
  | _=>.bad
   else .bad
 | _,_,_=>.bad
def s7{ih ist im:Nat}{G:List D->Ap Unit D}{m:AO S}{n:Ax S}{o:S}{Q:Fl->S->Prop}{E:AG->S->Prop}{a b d:D}(q:rd Z ih=some a)(v:rd Z ist=some b)(u:rd Z im=some d)(p:D.tpL [a,b,d]=true/\i<Z.length/\i≠ist)(h:Aa (G [a,b,d]) (λe _=>∃l r,e=.fl (.fl l::r)/\(l.length+2<sizeLine/\r.length+3<sizeLine)/\Aa (m (Z.set i (.bor e)) o) (λt f=>if t=true then Aa (n (Z.set i (.bor e)) f) (λj g=>∃d,j=.rt d/\Q (.rt d) g) E else Q (.nx (Z.set i .no)) f) E) λ_ _=>False) :
 Aa (HI S i ih ist im G m n Z o) Q E:=by
 unfold HI;rw[q,v,u];show Aa (if _ then _ else _) Q E;rw[if_pos p];cases q:G [a,b,d] with
 | bad=>rw[q] at h;exact h.elim
 | exc x u=>rw[q] at h;exact h.elim
 | ok e u=>
   rw[q] at h;obtain⟨l,r,rfl,a,w⟩:=h;show Aa (if _ then _ else _) Q E;rw[if_pos a];refine ae.mpr (aj w (λt f q=>?_) λ_ _ z=>z);cases t with
   | false=>exact q
   | true=>
     refine ae.mpr (aj q (λj g hI133=>?_) λ_ _ z=>z);obtain⟨d,e,z⟩:=hI133;subst e;exact z
def xO{ih ist im:Nat}(hK:c.K=X.K)(hW:∀P H H',W.ok P H->(∀b o,W.mv b->H b=some o->H' b=some o)->W.ok P H')(h1:PS X s1 (FB (F5 (spF X.K G) [] E0 (DX (Bx ih) (DX (Bx ist) (DX (Bx im) FC)))) (FA i)))(ht:DT X c test ft)(hb:BK X c body Fa)(h3:PS X s3 (HP (tBM X.K "list" Hh (tOp (rIx X.K) (Bx i) (tC (.int 0))) (DX (Bx ist) FC))))(h4:PS X s4 (HP (tBM X.K "list" Hh (Bx i) (DX (Jq FC) FC)))):BK X c [s1,.If test body [] p,s3,s4] (HI S i ih ist im G ft Fa):=by
 intro A3 s Y H N I ⟨Z,P,R,ok,w⟩;unfold HI at w;cases ra:rd Z ih with
 | none=>rw[ra] at w;exact w.elim
 | some a=>
 cases rb:rd Z ist with
 | none=>rw[ra,rb] at w;exact w.elim
 | some b=>
 cases rc:rd Z im with
 | none=>rw[ra,rb,rc] at w;exact w.elim
 | some d=>
 rw[ra,rb,rc] at w;have w:Aa (if D.tpL [a,b,d]=true/\i<Z.length/\i≠ist then _ else Ap.bad) (B2 c N Y Z H) (CF c):=w;by_cases hp:D.tpL [a,b,d]=true/\i<Z.length/\i≠ist;case neg=>rw[if_neg hp] at w;exact w.elim
 rw[if_pos hp] at w;obtain⟨tp,hi,hne⟩:=hp;cases q:G [a,b,d] with
 | bad=>rw[q] at w;exact w.elim
 | exc x u=>rw[q] at w;exact w.elim
 | ok e u=>
 rw[q] at w;cases ql:Gk e with
 | none=>
   have w:Aa (match Gk e with | some (l,r)=>_ | none=>Ap.bad) (B2 c N Y Z H) (CF c):=w;rw[ql] at w;exact w.elim
 | some lr=>
 obtain⟨l,r⟩:=lr;have w:Aa (match Gk e with | some (l,r)=>_ | none=>Ap.bad) (B2 c N Y Z H) (CF c):=w;rw[ql] at w;have w:Aa (if l.length+2<sizeLine/\r.length+3<sizeLine then _ else Ap.bad) (B2 c N Y Z H) (CF c):=w;by_cases hl:l.length+2<sizeLine/\r.length+3<sizeLine;case neg=>rw[if_neg hl] at w;exact w.elim
 rw[if_pos hl] at w;obtain⟨hl,hr⟩:=hl;have ee:=s6 ql;subst ee;obtain⟨va,ea,ia⟩:=R.rd ra;obtain⟨M,eb,ib⟩:=R.rd rb;obtain⟨vd,ed,id⟩:=R.rd rc;have tt:∀{d v},Is c.K 'w' H d v->Is X.K (λ_=>True) H d v:=λz=>by rw[<-hK];exact z.top
 refine gZ (N:=λY' H1=>∃v Hz,Y'=Y.set i (some v)/\BH H H1/\BH Hz H1/\(∀b o u,Hz b=some (.frz o u)->H b=none)/\Is X.K (λb=>H b=none) Hz (.fl (.fl l::r)) v) h1 I
  {va,ea,M,eb,vd,ed,[a,b,d],aa.cons.mpr {_,_,rfl,tt ia,aa.cons.mpr {_,_,rfl,tt ib,aa.one (tt id)}},tp,by rw[q];exact λv H' H1 Q A fz is=>⟨v,H1,rfl,Q,A,fz,is⟩} λt1 Y1 H1 I1 ⟨v,Hz,e1,Q,A,fz,is⟩=>?_
 subst e1;obtain⟨f,oa,vs,rfl,ha0,il⟩:=Is.fl_iff.mp is;obtain⟨v0,r0,rfl,i0,ir⟩:=aa.cons.mp il;obtain⟨g,ob,us,rfl,hb0,ius⟩:=Is.fl_iff.mp i0;have na:H f=none:=fz _ _ _ ha0;have nb:H g=none:=fz _ _ _ hb0;have lr:r.length=r0.length:=ir.length;have lu:l.length=us.length:=ius.length;have ok1:W.ok P H1:=W.stay P H H1 ok (λb o _ h=>Q b o h) λb o h _=>Q b o h
 have isD:Is c.K (Av c Y Z) H1 (.fl (.fl l::r)) (.ref f):=by
  rw[hK];refine is.mono {λb o e _=>A b o e,λb o n e=>{{λm=>?_,λm=>?_,λm=>?_},A b o e}}
  ·obtain⟨o',B,_⟩:=W.live P H b ok m
   rw[n] at B;cases B
  ·obtain⟨_,_,o',B,_⟩:=R.owOk m
   rw[n] at B;cases B
  ·obtain⟨_,_,o',B,_⟩:=R.avl b m
   rw[n] at B;cases B
 have R1:=(R.ext ok (Q.ext (W:=W))).setB hi isD;refine gZ (N:=λY' H2=>Y'=Y.set i (some (.ref f))/\Af W H1 H2/\∃y,W.ok y H2/\B2 c N Y Z H (.nx (Z.set i .no)) y) (sZ ht hb) I1
  {_,P,R1,ok1,aj (ae.mp w) (λt y q H2 e2 C=>?_) λx y q H2 e2 C=>q H2 (((Q.ext (W:=W)).trans e2).f0 R) C} λt2 Y2 H2 I2 ⟨e2,E,y,C,fin⟩=>?_
 ·cases t with
  | false=>
    rw[if_neg BA];rw[if_neg BA] at q;exact⟨rfl,e2,y,C,q⟩
  | true=>
    rw[if_pos rfl];rw[if_pos rfl] at q;refine aj (ae.mp q) (λfl st2 q=>?_) λ_ _ z=>z
    cases fl with
    | rt d=>exact q
    | nx r=>exact q.elim
    | bk r=>exact q.elim
    | ct r=>exact q.elim
 subst e2;have nmv:∀b o u,H1 b=some (.frz o u)->¬W.mv b:=λb o u e m=>by
  obtain⟨o',B,_,n⟩:=W.live P H1 b ok1 m;rw[e] at B;cases B;exact n _ _ rfl
 have T:H2 f=some (.frz oa (.lst (.ref g::r0))):=E _ _ (A _ _ ha0) (nmv _ _ _ (A _ _ ha0));have hb2:H2 g=some (.frz ob (.lst us)):=E _ _ (A _ _ hb0) (nmv _ _ _ (A _ _ hb0));have n0:∀b,H b=none->∀o u,X.H₀ b≠some (.frz o u):=λb n o u e=>by
  have:=I.base.frzs b o u e;rw[n] at this;cases this
 obtain⟨H3,J,I3,h3a,h3b,hws,k3⟩:∃H3 J,Ab X A3 (Y.set i (some (.ref f))) H3 t2/\H3 f=some (.lst (.ref g::r0))/\H3 g=some (.lst J)/\J.length+2<sizeLine/\∀b o,b≠f->b≠g->H2 b=some o->H3 b=some o:=by
  by_cases z:g=f
  ·subst z
   exact{_,_,I2.thaw T (n0 _ na),aq,aq,by rw[B4,<-lr];omega,λb o n _ e=>by rw[af n];exact e}
  ·have hb3:Ad H2 f (.lst (.ref g::r0)) g=some (.frz ob (.lst us)):=by rw[af z];exact hb2
   exact{_,us,(I2.thaw T (n0 _ na)).thaw hb3 (n0 _ nb),by rw[af (Ne.symm z),aq],aq,by rw[<-lu];omega,λb o n n' e=>by rw[af n',af n];exact e}
 have gi:(Y.set i (some (V.ref f)))[i]?=some (some (.ref f)):=Gx (by rw[R.len];exact hi);have gs:(Y.set i (some (V.ref f)))[ist]?=some (some M):=by rw[Ci hne];exact eb
 have a0:BD (V.ref g::r0) 0=some (.ref g):=ew (j:=0) rfl;refine gZ (N:=λY' H'=>Y'=Y.set i (some (.ref f))/\H'=Ad H3 g (.lst (J++[M]))) h3 I3 {.ref f,gi,.inl {f,_,0,.ref g,rfl,rfl,.inl (.of h3a),a0,.inl {rfl,J,.inl (.of h3b)},M,gs,g,J,M,rfl,rfl,h3b,'o',rfl,rfl}} λt3 Y3 H4 I4 hI134=>?_
 obtain⟨e3,e4⟩:=hI134;subst e3 e4;obtain⟨O,U,hxs⟩:∃O,Ad H3 g (.lst (J++[M])) f=some (.lst O)/\O.length<sizeLine:=by
  by_cases z:f=g
  ·subst z
   exact{_,aq,by rw[A8,List.length_singleton];omega}
  ·exact{_,by rw[af z];exact h3a,by rw[B4,<-lr];omega}
 refine cB h4 A3 t3 _ _ N I4 {.ref f,gi,.inl {rfl,O,.inl (.of U)},AE _,λp hp=>{f,O,.ref p,rfl,rfl,by rw[af (au U hp)];exact U,hxs,?_}};have k5:∀b o,b≠f->b≠g->H2 b=some o->Ad (Ad (Ad H3 g (.lst (J++[M]))) p (.lst [])) f (.lst (O++[.ref p])) b=some o:=λb o n n' e=>by
  have z:Ad H3 g (.lst (J++[M])) b=some o:=by rw[af n'];exact k3 b o n n' e
  rw[af n,af (au z hp)];exact z
 have k0:∀b o,H b=some o->¬W.mv b->Ad (Ad (Ad H3 g (.lst (J++[M]))) p (.lst [])) f (.lst (O++[.ref p])) b=some o:=λb o e m=>k5 b o (au e na) (au e nb) (E b o (Q b o e) m)
 have ok5:W.ok y (Ad (Ad (Ad H3 g (.lst (J++[M]))) p (.lst [])) f (.lst (O++[.ref p]))):=hW y H2 _ C λb o m e=>by
  obtain⟨o',B,_,n⟩:=W.live y H2 b C m;exact k5 b o (λz=>by subst z;rw[T] at B;cases B;exact n _ _ rfl) (λz=>by subst z;rw[hb2] at B;cases B;exact n _ _ rfl) e
 exact fin _ _ {λb o e m _=>k0 b o e m,λb o e m hI61=>by
  obtain⟨j,d',z1,z2⟩:=hI61;rcases aA z1 with⟨_,z⟩ | ⟨n,z⟩
  ·cases z
  ·rw[Ci (Ne.symm n)] at z2
   exact⟨j,d',z,z2⟩} ok5 (R.ext ok k0).setNo
end
end L2
section
open L2
local macro_rules
 | `(tactic| simp?! [$ls,*])=>do
   let x:=("wp_ok wp_bad wp_some wp_none wp_sNil wp_sSet wp_sSetB wp_sAsg wp_sPar wp_sIf wp_sRet wp_sRetV wp_sDrop wp_sMt wp_sBad wp_sAug wp_fC wp_fVk wp_f2 wp_fA wp_aNil wp_aCons wp_fCall wp_fCallS wp_fAndV wp_fOrV wp_fNotV wp_fIfE wp_fNeg wp_fCut wp_pNo wp_pSo wp_iSeq wp_iArgs wp_fComp wp_fB wp_fAnd wp_fOr wp_fNot wp_fTrue wp_sPar3 wp_sItem wp_sDPut wp_fChain wp_fDisp wp_sTab2 wp_fGet wp_sFor wp_fP wp_aP wp_tP own? frz frz1 Bp gN gT Dk gsNil D.seq? D.immL flat_lst flat_dct flat_int flat_str flat_bl flat_non flat_tup ah imm_str aI imm_non am B9 Ca CL g0 gS s0 sS lC lN rd putN put im kp vr cn o2 cs nl o1 ti tb boS dbb rl0_ rl1_ rl2_ rl3_ rl4_ rl5_ rl6_ rl7_ rl8_ rl9_".splitOn " ").toArray.map λn=>Lean.mkIdent n.toName
   `(tactic| try simp only[$[$x:term],*,EV_,Nat.reduceAdd,Nat.reduceLT,Nat.reduceLeDiff,Nat.reduceSub,reduceIte,$ls,*])
local macro_rules
 | `(tactic| simp_all!)=>do
   let a:=Lean.mkIdent `hN_
   `(tactic| ((try with_reducible refine $a _ _ ?_);with_reducible refine sm fun $(Lean.mkIdent `P_) $a $(Lean.mkIdent `hR_) $(Lean.mkIdent `hB_) $(Lean.mkIdent `hC_)=>?_))
 | `(tactic| simp!)=>`(tactic| simp! [wp_ok])
 | `(tactic| simp! [$ls,*])=>do
   let a:=Lean.mkIdent `hN_
   `(tactic| ((try with_reducible refine $a _ _ ?_);simp?! [$ls,*];(repeat (first | with_reducible refine $a _ _ ?_ | with_reducible refine $(Lean.mkIdent `hR_) _ _ ?_ | with_reducible refine $(Lean.mkIdent `hB_) _ _ ?_ | with_reducible refine $(Lean.mkIdent `hC_) _ _ ?_));simp?! [$ls,*]))
namespace K19
open L2
instance top(i:Nat):Stmt:=PySem.Challenge.pw_slidehall_k19_layers.main.body.getD i (.Pass {0,0,0,0})
structure Cst(K:FG)(mg:Str->Option Value):Prop where
 ok:True
 WALL:∃t,mg "WALL" = some (.int (-1) t)
 STRONG:∃t,mg "STRONG" = some (.int (1) t)
 DULL:∃t,mg "DULL" = some (.int (-1) t)
 STEPS:∃a0,mg "STEPS" = some (.ref a0)/\Iy K a0 [(1,0),(0,1),(-1,0),(0,-1)]
 MOST_STANDS:∃t,mg "MOST_STANDS" = some (.int (2000) t)
abbrev JV:Stmt:=top 27
abbrev KM:List Str:=["_law_script","_law_cells"]
def hA:CQ KM ["_law_script"] (AI JV):=by and_intros
abbrev JW:Stmt:=top 28
abbrev KN:List Str:=["_law_state","_law_many","_law_turn","_law_place","_law_cell","_law_digit","_law_mixed"]
def cv:CQ KN ["_law_state","_law_many"] (AI JW):=by and_intros
section
variable{P:Program}{w:World}{K:FG}{mg:Str->Option Value}{base:Heap}
def s8(F:Cr K "_law_begin" "_law_begin" JV f fd)(hm:Bn mg):BS P w K mg base CX0 1 f fd ["_law_script"] (Ix K):=by
 refine F.ok hA (λvs H Q E h=>?_) (λcdv A J s H vs Q E hr h=>?_)
 ·obtain⟨a,ns,rfl,_⟩:=h;rfl
 ·obtain⟨a,ns,rfl,hS,M,q⟩:=h
  have y:Ej 'k' none (some 63)=ns.map V.int:=qB M;refine{_,bp (bv (i:=1) hA.nd rfl (Or.inl rfl) (iL oy (by rfl) hm.list boot_list (aT (iQ iW (pv 0) iO (iP aO)) bg))) (bp (eg (fG (pS hr) (pv 1) (fJ bg) (iE _)) (cB (bv (i:=1) hA.nd rfl (Or.inl rfl) (fJ (aT aO bg)))) ef) (cB (cC (jb (eB bH (pv 1) (eB bH aO fQ)) rfl rfl 'd' (by show 2<=15;decide))))),?_};refine{.ref a,rfl,63,rfl,a,_,rfl,hS,λn U=>?_};rw[y];refine{n,_,rfl,.inl (.of aq),λd c=>?_};have I:n≠d:=au aq c;have R:BH H (Ad (Ad H n (.lst 'k')) d (.lst 'k')):=λb o e=>by
   have C:b≠n:=au e U;have b2:b≠d:=λz=>by subst z;rw[af C,e] at c;cases c
   rw[af b2,af C];exact e
  refine{_,rfl,(by show 0<=sizeLine;decide),λv l=>?_};have B:d≠v:=au aq l;refine{λ_=>True,.lst (ns.map D.int),.lst [],ns.isEmpty,?_,?_,?_,?_,?_}
  ·exact Is.lst trivial (by rw[af B];exact aq) (j9 ns)
  ·exact Is.lst trivial aq (aa.nil.mpr rfl)
  ·exact qC ns
  ·cases ns<;>rfl
  have fin:∀(H3:Hp) (p:Addr) (T:List Int),BH H H3->H p=none->H3 p=some (.lst (T.map V.int))->T=E5 ns->
   Jw [(λ_ H Q=>Q (.str "cells") H,Bx 1),(λ_ H Q=>Q (.str "turn") H,λ_ H Q=>Q (.int 0) H)] [some (.ref a),some (.ref p)] H3 Q:=λH3 p T N hn Z ex=>by
   intro r g;have W:p≠r:=au Z g;refine{_,rfl,aq,[(Sum.inr "cells",.ref p),(Sum.inr "turn",.int 0)],rfl,(by show 2<=15;decide),?_};refine q r p _ (λb o e=>?_) ?_ ?_ ?_ ?_
   ·have Y:b≠r:=au (N b o e) g
    rw[af Y,af Y];exact N b o e
   ·cases z:H r with
    | none=>rfl
    | some o=>rw[N r o z] at g;cases g
   ·exact hn
   ·rw[aq];exact congrArg (λz=>some (HO.dK z)) qD
   ·rw[af W,af W,Z,ex]
  have g2:H d=none:=by
   cases z:H d with
   | none=>rfl
   | some o=>
     have C:d≠n:=I.symm;rw[af C,z] at c;cases c
  cases ns with
  | nil=>
    refine{_,rfl,cE ?_};refine{(by show 1<=sizeLine;decide),λx j=>?_};have G:BH H (Ad (Ad (Ad (Ad H n (.lst [])) d (.lst [])) v (.lst [])) x (.lst [.int 7])):=λb o e=>by
     have m:=R b o e;have u:b≠v:=au m l;have b4:b≠x:=λz=>by subst z;rw[af u,m] at j;cases j
     rw[af b4,af u];exact m
    refine fin _ x [7] G ?_ aq rfl;cases z:H x with
    | none=>rfl
    | some o=>
      have m:=R x o z;have u:x≠v:=au m l;rw[af u,m] at j;cases j
  | cons O ns=>
    refine{_,rfl,db ?_};have G:BH H (Ad (Ad (Ad H n (.lst ((O::ns).map V.int))) d (.lst ((O::ns).map V.int))) v (.lst [])):=λb o e=>by
     have m:=R b o e;have u:b≠v:=au m l;rw[af u];exact m
    exact fin _ d (O::ns) G g2 (by rw[af B];exact aq) rfl
open H in
def s9(F:Cr K "_law_take" "_law_take" JW f fd)(B:mg "len" = none)(Y:mg "divmod" = none):BS P w K mg base CX0 1 f fd ["_law_state","_law_many"] (spS (Ef p l) K CV):=by
 refine F.ok cv (λvs H Q E h=>?_) (λcdv A T s H vs Q E hr h=>?_)
 ·obtain⟨ds,us,a,rfl,i,ok,w⟩:=h
  unfold CV at w;split at w
  ·rw[B4,<-i.length];rfl
  ·exact w.elim
 ·obtain⟨ds,us,a,rfl,i,ok,w⟩:=h
  unfold CV at w;split at w
  ·rename_i u
   split at w
   ·rename_i hb
    obtain⟨v,r,ev,i1,i2⟩:=aa.cons.mp i;rw[aa.nil.mp i2,Is.int_iff.mp i1] at ev;subst ev;have G:=oL hr;obtain⟨U,hl,x,C,h0⟩:=id ok;have y:p≠l:=bP U hl (by intro z;cases z);refine{_,bp (bv (i:=2) cv.nd rfl (Or.inl rfl) (aM cW (dh G (pv 0) bH (λ_ _=>rfl)) aO)) (bp (fN G (pv 0) bH (pv 2) rfl) (bp (bv (i:=3) cv.nd rfl (Or.inl rfl) (aM cD (pv 2) (cZ ox (by rfl) B PySem.boot_len (aT (dh G (pv 0) bH (λ_ _=>rfl)) bg)))) (bp (bv (i:=4) cv.nd rfl (Or.inl rfl) (fL iT (dh G (pv 0) bH (λ_ _=>rfl)) (pv 3) (λ_ _=>rfl))) (bp (eg (fG nL (pv 4) (aM nJ aO aO) (iE _)) (bp (fD (cZ nO (by rfl) Y boot_divmod (aT (pv 4) (aT (pv 1) bg))) (fy (n:=2) rfl (cV (nu (dh G (pv 0) bH (λ_ _=>rfl)) (pv 3) oo) (cV (eh (i:=5) cv.nd rfl (Or.inl rfl)) fx)))) (cB (cC (pv 5)))) ef) (bp (bv (i:=6) cv.nd rfl (Or.inl rfl) (aM cD (aM ce (aM cW (aM cW (aM cD (pv 4) aO) (aM ce (aM ce (pv 2) (pv 2)) aO)) aO) aO) aO)) (bp (bv (i:=6) cv.nd rfl (Or.inl rfl) (aM cD (aM ce (pv 6) (pv 6)) aO)) (cB (cC (aM cD (aM nI (aM cD (aM ce (aM cW (pv 6) (aM ce (pv 2) aO)) aO) aO) aO) (pv 1)))))))))),?_};have n0:(0:Int)<(a.1.length:Int):=by
     have:a.1.length≠0:=λz=>x (Hd.mp z)
     omega
    have Z:0<=(a.2+1) % (a.1.length:Int):=Int.emod_nonneg _ 'o';have pl1:(a.2+1) % (a.1.length:Int)<(a.1.length:Int):=Int.emod_lt_of_pos _ n0;have I:((Cb a:Nat):Int)=(a.2+1) % (a.1.length:Int):=Int.toNat_of_nonneg Z;have M:Cb a<a.1.length:=by omega
    have W:(a.1.map V.int)[Cb a]?=some (.int (a.1.getD (Cb a) 0)):=by
     rw[AT,AU M,Gu,AU M];rfl
    have d:∀o,(Ad H p o) l=some (.lst (a.1.map V.int)):=λo=>by rw[af y.symm];exact hl
    have g0:BM H p (.str "turn") (some (.int a.2)):=by
     have q:=BM.k (k:=(Sum.inr "turn" : Au)) U;rw[j8] at q;exact q
    have p0:EM H p (.str "turn") (.int (a.2+1)) (Ad H p (.dK (Ee l (a.2+1)))):=by
     have q:=EM.k (k:=(Sum.inr "turn" : Au)) (v:=.int (a.2+1)) U (by show 2<sizeLine;decide);rw[qA] at q;exact q
    have gc:∀{H2:Hp},H2 p=some (.dK (Ee l (a.2+1)))->BM H2 p (.str "cells") (some (.ref l)):=λ{H2} e=>by
     have q:=BM.k (k:=(Sum.inr "cells" : Au)) e;rw[qz] at q;exact q
    have c:(((a.1.map V.int).length:Nat):Int)=(a.1.length:Int):=by rw[Ag]
    -- turn,its store,the place
    refine{_,rfl,p,.int a.2,rfl,g0,a.2,1,rfl,rfl,_,rfl,_,rfl,p,_,rfl,p0,?_};refine{_,rfl,_,rfl,p,.ref l,rfl,gc aq,l,_,rfl,.inl (AV.of (d _)),a.2+1,_,rfl,rfl,by rw[c];exact n0,?_}
    -- the cell
    refine{_,rfl,p,.ref l,rfl,gc aq,_,rfl,l,_,_,.int (a.1.getD (Cb a) 0),rfl,rfl,AV.of (d _),by rw[c,<-I];exact ew W,?_};refine{_,rfl,10,18,rfl,rfl,{'z','z','z'},a.1.getD (Cb a) 0,_,rfl,rfl,_,rfl,?_};have J:((10:Int) ^ (18:Int).toNat)=1000000000000000000:=by decide
    by_cases O:1000000000000000000<=a.1.getD (Cb a) 0
    ·rw[if_pos O] at w
     rw[J,az O];refine cE ?_;refine{_,rfl,_,rfl,a.1.getD (Cb a) 0,u,rfl,⟨hb.1,hb.2.1⟩,λq N=>?_};have qp:p≠q:=au aq N;have ql:l≠q:=au (d _) N;refine{q,_,rfl,AN.of aq,rfl,_,_,rfl,_,rfl,p,.ref l,rfl,gc (by rw[af qp];exact aq),_,rfl,l,_,_,Cb a,rfl,rfl,by rw[af ql];exact d _,?_,_,_,rfl,rfl,?_}
     ·rw[c,<-I]
      unfold CC;rw[if_pos 'o',if_pos (by rw[Ag];omega)];simp
     ·refine{_,rfl,w _ _ (λb o m R=>?_) {?_,?_,?_,?_,?_} (Is.int_iff.mpr rfl)}
      ·have b1:b≠p:=λz=>R (.inl z)
       have b2:b≠l:=λz=>R (.inr z)
       have b3:b≠q:=λz=>by
        subst z;rw[af b1,m] at N;cases N
       rw[af b2,af b3,af b1];exact m
      ·rw[af y,af qp];exact aq
      ·rw[aq]
       congr 2;rw[List.map_set]
      ·intro z
       have:=congrArg List.length z;rw[DD] at this;exact x (Hd.mp this)
      ·show (a.1.set _ _).length<=63
       rw[DD];exact C
      ·show 0<=a.2+1
       omega
    ·rw[if_neg O] at w
     rw[J,aw O];refine db ?_;have tb:-(2 ^ 64)<a.2+1/\a.2+1<2 ^ 64:={'o','o'};have g:∀(j:Int),-(2 ^ 64)<j/\j<2 ^ 64->∀i:Int,DJ i j:=λj h i=>.inr h
     refine{_,rfl,a.1.getD (Cb a) 0,2147483629,rfl,rfl,(by show (0:Int)<2147483629;decide),_,rfl,_,rfl,_,_,rfl,rfl,.inl tb,_,_,rfl,rfl,g _ {'z','z'} _,_,_,rfl,rfl,_,_,rfl,rfl,_,_,rfl,rfl,g _ {'z','z'} _,_,_,rfl,rfl,(by show (0:Int)<2147483647;decide),?_};have m0:0<=Gc (a.1.getD (Cb a) 0) (a.2+1):=Int.emod_nonneg _ 'z';have m1:Gc (a.1.getD (Cb a) 0) (a.2+1)<2147483647:=Int.emod_lt_of_pos _ 'z';refine{_,rfl,_,rfl,Gc (a.1.getD (Cb a) 0) (a.2+1),Gc (a.1.getD (Cb a) 0) (a.2+1),rfl,rfl,.inl {'o','o'},_,_,rfl,rfl,(by show (0:Int)<2147483587;decide),?_};refine{_,rfl,_,rfl,a.2+1,104729,rfl,rfl,g _ {'z','z'} _,JM (a.1.getD (Cb a) 0) (a.2+1),_,rfl,rfl,_,39373,rfl,rfl,g _ {'z','z'} _,_,2147483629,rfl,rfl,(by show (0:Int)<2147483629;decide),_,64,rfl,rfl,{'z','z'},_,rfl,JN (a.1.getD (Cb a) 0) (a.2+1),u,rfl,rfl,hb.1,?_};refine w _ _ (λb o m R=>?_) {aq,d _,x,C,by show 0<=a.2+1;omega} (Is.int_iff.mpr rfl);rw[af (λz=>R (.inl z))];exact m
   ·exact w.elim
  ·exact w.elim
end
set_option hygiene false
open Lean in
def mT:="A0rfl #3 #6 #4 =90+ A0w0 #5 ? #1 #2 =900 A0xa #7 #0 X #8 =90, =Ƀ0Ŕ =ŕ0. =90$ @2.nd =90/ =Ⱦ0A =J0. A0hr ==01 =Ɇ0* =O1. Q00 =T0D A1pv =90) =902 =ǳ1X [4 =g0ƙ [1 A1gU_ !i A1gL_ =ɼ1ɽ =<0Ĺ A1some =f0- =ȿ09 =90% =ɇ0Ŕ =ǻ0ǖ =ǌ1. =|1| A0none =90& =`1L =Ʉ0# =ɐ0# =>0& =g0ŧ - =Ř0Y =ʟ0; =Ī00 =ɚ0* [3 =õ05 =ʬ0ú A0w3 =W1Ĭ =Y1( =ɟ1; @5 =ʤ1Ƙ [2 =É0Æ =>0+ =I0) =`1< =ƍ11 =Ʋ0$ #9 =f03 =T1D =@3@ =ƚ0ǃ A0hm.tuple A0boot_tuple =|1< =ʧ0# #11 =90ý =ɂ0* =10Ǫ =ʨ17 =@0, =|1L A2xc =ż0˂ =ʹ0Ƿ A2xo =ɬ0A =ʫ0H =ɓ04 =ɫ0# =ė1( =ŕ05 =ē0% A1pp =ʾ04 =ɠ0# A0w5 #13 =ʵ0Ǆ =Ǩ1Ǐ =Ś0. =ˈ1ˉ [0 =ʞ0# =Č2. =A0, =ˎ1# =Ĥ0Ö =]2. =T2L =Ɉ0# =ż0ǈ =<0Ɗ =ǳ1ǽ =Ž0ȁ =ǔ0+ =O0, =Ǧ0M =Ɛ0ʗ A0hm.list A0boot_list =Ƕ17 =A0$ =ˍ1Ŝ =O1O =ť0$ A0vS =ɪ0Ŕ =ķ2Ȃ =ƌ1( =ɡ3# =y1b =ļ0ļ =ü0ƙ R1 =Ļ0Ļ =Ç1. '_law_cell =ɢ0; =ī0× =Ŧ10 #12 A1pk #14 =90Ł =j0ù =90q '_law_x '_law_y =Ŏ3- A2aT =˱04 =Æ0+ =ǿ0ˡ =x1Ɗ =ǝ0× =ʭ0ƌ =ī0É =˩0^ =ǿ0ʯ =ė1d =Ǟ0˛ Q21 !j =ǡ0Ņ =Å1. =@02 =ǻ0ú =Ĕ0g ==0n =˒0; =>0$ =Ŗ3Ĭ A0u8 A0wd =x01 A1vM =˖3ǘ =Ŷ0l =u0> =ɩ1Ƿ =10i =ǲ1X =K0+ =>0) =ƛ1Ȃ =Ƕ1ɯ =Û1é A0w6 =˝0$ =˚0U A;wC =˥0Ɣ A2wN =ˣ0ˤ =þ0˦ =ŕ0ŕ =Â1ǅ =˗0Ɣ =ƛ1ƛ =˕1Ū A1vz =˘0* =ŋ0( =ŷ0d =Ŧ1+ A0hm.int A0boot_int =˜2G #10 A2vG =ł0é A0vF =ɰ0ï =ā0ˠ =Ǿ2- =ʱ0# =A02 .tuple A2xg =Ƌ3' =W1Ð =ʕ0ʖ A0hm.str A0boot_str =˞0ƙ =˴0˵ A0bg .R =ŷ0( =Ǘ0È =ş4_ A2xh @6 =Ř0N =ʛ0ű A0ve =ʰ0# =ì00 =Ə3æ 'many 'end 'n 'direction A0u7 =O1Z =ɝ1; @4 A2xy =ʮ0Ņ =ʻ0# =ʺ0Ȁ A0hm.min A0boot_min A@wL !k A2xr !N' !ixs =ɶ0ɷ A0vc A0wm =O00 A2xf A0hm.dict A0boot_dict #15 @7 A1DW.dt =Ŗ1î A1g2_ A1vY A0hm.any A0boot_any =Ǎ0ǎ =ʍ0ʎ A1v4 '_law_wide '_law_high A1vX A0hm.all A0boot_all =ʪ0A =ũ0Ŏ =ʇ0# R2 A2xk =ś6ʩ =ʅ0ʆ .list '_law_one '_law_other A0u4 A0pI A0PySem.F.slot_list_append A0PySem.F.type_list_append A0oC @3 A1gA_ A2ww =ž0Ǻ 'j 'x 'i 'y A0cs.WALL A0hm.enumerate Q02 =ˏ0Ŕ 'other 'going A0wI A1wJ A0oy A1wl A6wu Q13 A2fD A0hv A3nu A0hk A0oo =ì1& A0hm.len A0PySem.boot_len A2xx A1xF A1xG A3xu A2xI A1xJ '_law_j '_law_i '_law_place Q04 =ô0ô A<vO '_law_state '_law_broad =ɴ3# =ʲ1. =Ǒ1. =Ƃ0( A2vo =Ǉ1ʿ A0u6 '_law_taken #16 A2xn A2xq =ʠ0# A1v8 =ł1ł A2xi '_law_ahead =Ń1Ń =F0Ş A1xv =ʥ0; A1gT_ A0hm.sorted A0boot_sorted A5wA A0wy A2wz =Û1~ =ǭ1ˊ '_law_gap .dict A1vq '_law_name '_law_found '_law_due A0JX =j0U .str =ʼ04 =ʊ04 A2vI A1wW A1wX =Ɯ3( A1iA A6oB A0PySem.F.plainAttrs_list @8 =ɋ0I =10ǲ =Ɏ0I =Ɍ11 =Ǵ2X A0PassesOwn.never =ƚ0ò =Ǹ0> =ɮ04 =Ŗ1Ï =ɳ0I =ɵ0# =ž0ǩ =ƃ0, Q05 A0u5 A0wv =ǆ0b A0wp A4vW A?wR !tbl !a0 A0cs.STEPS A8wS Q46 A0cs.DULL A0cs.STRONG A6wE A0u3 A5vD A0u9 A0we A3wV A4xA A0cs.MOST_STANDS A0wB A4xz A5xB A2vy A<xC A0D2 A1xL A1xK A0xH A;wO A0wM Q07 A2wH A1wP A0wK A5wq A3wa A3aX A5wQ A0nI A0xE A1wZ A3wx A0hm.zip .int A2wb .bool A0hm.bool A0boot_bool A;xO !ih !ist !im A0xM A5bv A4xN A4fL A0iV A0aO A1fJ A1w7 A2xb A2vv =ƍ0ɀ =Ɂ1* !ga A1Or.inl A1vx =ö0Ʌ !gb Q18 A5vC =ɉ2# =Ɋ17 R3 A4vE =ɍ2# A4gX_ =ɏ3Þ A7vj =ɑ6# =ɒ1Q A0vt =10ɔ =ǵ3ɕ A3vB =ɖ0ɗ =ɘ2* =ə1* A5vR =ɛ3A =ɜ2# A4vQ =ɞ2# A1v6 A6wF A1pS =ǵ21 A6vK =ɣ0ɤ =ɥ5* =ɦ4* =ɧ3* =ɨ2# !g A2wD A1vg A6ji =ɭ1Q Q19 A2vi A8vT =ɱ7# =ɲ5A A6wG A1Or.inr Q1: Q3; =ǹ4ƴ =ɸ3Ƴ A1wj =ɹ2ɺ =ɻ2# A0ox A3Ie.scope =ɾ2ƾ !osc =ɿ1ʀ A1AI =ʁ1ʂ @0 =ʃ1ʄ !N A3gP_ A7vh =ʈ6# =ʉ1Q A4vH =ʋ2# =ʌ1# !n A9wg =ʏ74 =ʐ4# A0hm.isinstance =ʑ3ʒ =ʓ2# A1gI_ =ʔ1# @1 A7vN =ʘ6ų =ʙ4# =ʚ1Ų A3vJ A0hm.range =ʜ1ʝ A1oL A3gp_ =Ǽ4Ɨ =ʡ3Ɩ A0vU =ʢ2ʣ A1vZ A4gY_ =ʦ3Þ =Ǵ2ǽ A0vL A1vA A2xj =Ǿ1Ï A2xp A1gB_ =Ǔ2ń A1wk A1v7 A2xt A1wo =ò2ʳ =ʴ2Ȁ A3vP =o0ʶ =ʷ2* =ʸ1* A1wn A1vb A3v9 A2wf =ʽ1( A1vm A2vp A1vn =ˀ1ˁ A0PySem.F.type_list_extend =Ǽ4˃ A0PySem.F.slot_list_extend =˄3˅ A0vV =ˆ2ˇ A0vf A0pH =ģ4w =ˋ3v =ˌ2ŝ A2w8 !gc =Ŗ1ň A1v5 =ː0ˑ =Ǹ4ŭ =˓3Ŭ =˔2ū =ǹ4Ǚ =Ǻ1ƕ =ö0þ =a2M =˙1M A0cD =ŗ3k =ď1& =Ľ15 =ȃ0ȃ '_law_shuts =ǐ2ń A0wU =Ɯ1ˢ A0wT =Ɯ1ƕ =˟0. A6wt =˧3Q =˨24 A:wc =˪7( =˫6î =ˬ5î =˭4ȁ =ˮ3ǉ =˯2Ƥ =˰1Q A2xl =˲1. =˳0ƚ A1wY".splitOn " "|>.map String.toList|>.toArray
open Lean in
def mQ(a:Nat->Term):Nat->MacroM Term
  |0=>`(by decide)
  |1=>`(($(a 0), $(a 1)))
  |2=>`(-1)
  |3=>`(λhk hv=> $(a 0))
  |4=>`(by decide +kernel)
  |5=>`(_)
  |6=>`(⟨ $(a 0), $(a 1), $(a 2), $(a 3)⟩)
  |7=>`(by simp)
  |8=>`(λ_ _=> $(a 0))
  |9=>`(show (($(a 0)):List Str).Nodup by decide +kernel)
  |10=>`(λav cl C s H fp=> $(a 0))
  |_=>`(⟨ $(a 0), $(a 1), $(a 2)⟩)
open Lean in
def mA(I:Array Syntax):Nat->Char->List Syntax->Nat->MacroM (List Syntax×Nat)
  |0,_,s,n=>pure (s,n)
  |f+1,c,s,n=>do
   let c:=c.toNat
   let p (k:Nat)(t:Syntax):MacroM (List Syntax×Nat):=pure (t::s.drop k,n)
   let a (k:Nat):Term:=⟨s[k]!⟩
   let N (x:List Char):=mkIdent (String.ofList x).toName
   match mT[if c<127 then c-35 else c-100]! with
   |['=',a,i,b]=>do
    let i:=i.toNat-48
    let (r,n)←mA I f b (s.drop i) n
    mA I f a (s.take i++r) n
   |'A'::k::x=>
    let k:=k.toNat-48
    p k (Syntax.mkApp (N x) ((s.take k).map TSyntax.mk).toArray)
   |'.'::x=>p 0 (mkNode ``Parser.Term.dotIdent #[mkAtom ".",N x])
   |'@'::k::x=>p 0 (mkIdent (I[k.toNat-48]!.getId++(String.ofList (x.drop 1)).toName))
   |'#'::x=>p 0 (Syntax.mkNumLit (String.ofList x))
   |'\''::x=>p 0 (Syntax.mkStrLit (String.ofList x))
   |'!'::x=>p 1 (mkNode ``Parser.Term.namedArgument #[mkAtom "(",N x,mkAtom ":=",s[0]!,mkAtom ")"])
   |['[',k]=>do
    let k:=k.toNat-48
    let x:TSyntaxArray `term:=((s.take k).map TSyntax.mk).toArray
    p k (←`([$x,*]))
   |'?'::_=>do
    let h:=mkIdent (Name.mkSimple s!"q{n}")
    return ((←`(?$h:ident)).raw::s,n+1)
   |'X'::_=>do p 1 (←`(tactic|exact $(a 0)))
   |['R',k]=>do
    let mut t←`(tactic|refine' $(a 0))
    let mut i:=1
    for x in s[0]!.topDown do
     if x.isOfKind ``Parser.Term.syntheticHole then
      let h:Ident:=⟨x[1]⟩
      let y:TSyntax `tactic:=⟨s[i]!⟩
      t←`(tactic|($t:tactic;case $h:ident=>$y:tactic))
      i:=i+1
    p i t
   |['Q',k,j]=>do p (k.toNat-48) (←mQ a (j.toNat-48))
   |_=>Macro.throwUnsupported
local macro_rules
 |`(tactic|exact $s:str $x*)=>do
  let mut r:List Lean.Syntax×Nat:=([],0)
  for c in s.getString.toList.reverse do
   r←mA x 99 c r.1 r.2
  return r.1[0]!
local macro_rules
 |`(command|example($m:ident $s:ident $n:ident $c:ident):$h:str:=$b:str)=>do
  let L(x:String):=do
   let y:=((x.splitOn " ").filter (·≠"")).map λz=>(Lean.Syntax.mkStrLit z:Lean.Term)
   let y:=y.toArray
   `([$y,*])
  let I(x:String):=Lean.mkIdent x.toName
  let w:=h.getString.splitOn "/"
  let c0:=w[0]!.front
  let d:=c0 != 'U'
  let k:=Lean.Syntax.mkNumLit (String.ofList (w[0]!.toList.drop 1))
  let x:=Lean.Syntax.mkStrLit w[1]!
  let u←if d then `(Dr) else `(Unit)
  let e←if c0=='U' then `(DQ K H) else if c0=='D' then `(DF (Ef p l) K H) else `(DF (Ef p l) K (λ_=>none))
  let y←if c0=='L' then `((B1 $s).drop 1) else `(B1 $s)
  let mut t←`(∀f cdv A outer s H E,AQ k (A.deeper (envOfC $x (AI $s) s.heap.objs.size f cdv))->BK (Cs CX0 P w K mg base $n $x (AI $s) f cdv A outer s H E).nox $e $y B)
  let mut G:Array Lean.Ident:=#[]
  let mut C:Array Lean.Ident:=#[]
  for z in w.drop 4 do
   C:=C.push (I s!"C{C.size}")
   G:=G.push (I s!"G{G.size}")
  for (z,i) in ((w.drop 4).zipIdx).reverse do
   let v:=z.splitOn " "
   let g:=G[i]!
   let y←if z.front=='D' then `(spS (Ef p l) K $g) else `(Ed K $g)
   let q:=C[i]!
   t←`(∀($q:ident:Ce P w K mg base k $(Lean.Syntax.mkStrLit (String.ofList (v[0]!.toList.drop 1))) $(←L (" ".intercalate (v.drop 1))) $y),$t)
  t←`(∀(hm:Bn mg) (cs:Cst K mg) k,$t)
  t←if d then `(∀P w K mg base (p l:Addr),$t) else `(∀P w K mg base,$t)
  let p:=if d then #[I "p",I "l"] else #[]
  return Lean.mkNullNode #[←`(command|abbrev $s:ident:Stmt:=top $k),←`(command|abbrev $n:ident:List Str:=$(←L (w[2]!++" "++w[3]!))),←`(command|def $c:ident:CQ $n $(←L w[2]!) (AI $s):=by and_intros),
   ←`(command|def $m:ident $[($G)]* :{B:Ax $u//$t}:=by
    refine⟨?B,?h⟩
    case h=>
     intro P w K mg base $p* hm cs k $C* f cdv A outer s H E hr
     exact $b $s $n $c $C*)]
set_option hygiene true
example(yo4 yd1 xh2 xq8):"U5/within/wide high cell/":="LÓćr-ćr'"
example(yj4 zt7 yh0 zp9):"U6/covered/kind place/x y cells i":="s}Ĉĉ~,~$&:ĊċÔ)<Õ&&ŗEƝƞƟƠEUM,M)M$Ö×ÔEƝƞƟƠHČ'3Ø6-&"
example(yi3 zy3 yw8 zm5):"U7/holders/hall stand/held wall n kind cell/Ucovered kind place":="ÀȄčN$<ĎÙ6ÚơĊÛȅ##ƢÔď&)=čFO)Ü'V%<ĎÙPV,"
example(xy8 xf9 wk2 wo6):"U12/goes/ways direction/":="ÝWĐ-cđ'(WĐ-cđ'(c-d"
example(zr4 zl8 zz1 zw0):"U13/one_further/place direction/east north":="Á1ȆȇEĒ+0Ē0+Ēƣ0Ē0ƣI,ē$Ȉ0##ȉ#7##XX'ÞHČN3ØN6"
example(yq8 yd4 xh5 zt4):"U14/met_by/hall stand held n direction/kind met cell holder/Ugoes ways direction/Ucovered kind place/Uone_further place direction/Uwithin wide high cell":="t)YN6eĔFŘfBZ%:č[ÂBĕgh]'6Z/ĖȊ4QƤ^386ȋ####eÃėCÚơĘřŚŚ>/ęßRC6ĚCPi%%Cà%"
example(zo9 zi0 zo7 zf5):"U15/movers_among/hall stand held n direction/strong going asked met/Umet_by hall stand held n direction":="@)fYN6eėBÚȌsá%Jě/(ÁÄâ8K%Ėãä]P8ZeÃĜĝĞCßRC:RBÚȍğÕ%%śjƥƦå%G2æk2_jƥƦĠĚ-'-ȎI/7#Xȏ(uSġ%Ƨƨ#Ŝŝvw"
example(yq7 yd3 xh4 xq9):"U16/movers/hall stand n direction//Umovers_among hall stand held n direction/Uholders hall stand":="LFÂ-Â'Å[Ģäě"
example(zs4 zl9 zz2 zo6):"U17/behind_step/stand going direction/places n/Uone_further place direction":="@$ģ0Ʃƪ#çèĤG+k+é&<ƫê4QVF]-V>,ƬƭƮƯêưƱLë$"
example(zo5 zk5 zw3 zf4):"U18/stands_along/hall stand held n direction/stands last going/Umovers_among hall stand held n direction/Ubehind_step stand going direction/Umovers hall stand n direction":="t):1ȐI%7#XĈ/ãì,$ZÄĜȑȒ8@%[ì%/Zĥ))P<Ħ/ghŞ%íà)"
example(zi9 ze9 zj1 zd6):"U19/pushes_with_ends/hall stand/held pairs n direction ends/Uholders hall stand/Ustands_along hall stand held n direction":="ÀFĢD$:ĊċSħ&=ċ5)xD%[Ş+Ʋ,ĨÕ$$şEŠšŢţEUUM&M)G%ȓ#ƢĩÆ%ĉ_EŠšŢţĪ+EŠšŢţHÇì,$>0l$"
abbrev GT:Stmt:=top 22
abbrev IJ:List Str:=["stands"]
def lL:CQ IJ ["stands"] (AI GT):=by and_intros
def IK:{ B:Ax D // ∀P w K mg base (a:Addr) (hm:Bn mg) (cs:Cst K mg) k f cdv A outer s H E,AQ k (A.deeper (envOfC "refuse_too_many" (AI GT) s.heap.objs.size f cdv))->
 BK (Cs CX0 P w K mg base IJ "refuse_too_many" (AI GT) f cdv A outer s H E).nox (DF (CO K a) K H) (B1 GT) B }:=by
 refine{?B,λP w K mg base a hm cs k f cdv A outer s H E hr=>?h};case h=>exact"ęÈŤîȔ#ƳƴA0ÚȕȖ" GT IJ lL
abbrev GU:Stmt:=top 23
abbrev IL:List Str:=["hall","layer","ways","further","stand","push","end"]
def lM:CQ IL ["hall","layer","ways"] (AI GU):=by and_intros
def IM(D8)(D9:List D->D->Ap D D):{ B:Ax D // ∀P w K mg base (a:Addr) (hm:Bn mg) (cs:Cst K mg) k (C3:Ce P w K mg base k "pushes_with_ends" ["hall","stand"] (Ed K D8)) (C5:Ce P w K mg base k "refuse_too_many" ["stands"] (spS (CO K a) K D9)) f cdv A outer s H E,AQ k (A.deeper (envOfC "layer_behind" (AI GU) s.heap.objs.size f cdv))->
 BK (Cs CX0 P w K mg base IL "layer_behind" (AI GU) f cdv A outer s H E).nox (DF (CO K a) K H) (B1 GU) B }:=by
 refine{?B,λP w K mg base a hm cs k C3 C5 f cdv A outer s H E hr=>?h};case h=>exact"@$:īƵ#Ĉ&xÛÉFť0ď)%=`ȗ#^PÙğȘ#^ÙPHť)i$$PșïŦŧ,.Lġ$ƶ;Ʒ#" GU IL lM C3 C5
abbrev GV:Stmt:=top 24
abbrev IN:List Str:=["hall","stand","most","ways","found","layer"]
def lO:CQ IN ["hall","stand","most"] (AI GV):=by and_intros
def IP(F6:List D->D->Ap D D):{ B:Ax Unit // ∀P w K mg base (hm:Bn mg) (cs:Cst K mg) k (D2:∀a:Addr,Ce P w K mg base k "layer_behind" ["hall","layer","ways"] (spL (CO K a) K F6)) f cdv A outer s H E,AQ k (A.deeper (envOfC "spread" (AI GV) s.heap.objs.size f cdv))->
 BK (Cs CX0 P w K mg base IN "spread" (AI GV) f cdv A outer s H E).nox (DQ K H) (B1 GV) B }:=by
 refine{?B,λP w K mg base hm cs k D2 f cdv A outer s H E hr=>?h};case h=>exact"t$Ƹ^'ĬD&:)JlÄßRB:âK&3ğŨ)i&&BȚmē$#ț;#7#X-BêxnRB:Ũ)i&&BŨ&ȜȝƹƺA&ƹƺêȞ" GV IN lO
example(yr1 yd5 xh6 yf5):"U25/layers/hall stand most/found ways/Uspread hall stand most":="Ċ}ã>,ĭ$"
example(zp4 zi1 zo8 zm8):"U30/_law_covered/_law_kind_here _law_place/_law_found _law_i":="À:ċÔ$<Õ,,ŗaƻƼƽĮ$+Ö×ÔaƻƼƽHČr'Ør-à,"
example(zp3 zk7 zw5 zt6):"U31/_law_room_of/_law_wide _law_high _law_kind_here/_law_across _law_up":="Á1įI$ē&#7##?##ðñİ-rñİ'r#ȟ4^ıĲ6Vı6ıVı(Ƞ##ȡ??ƾrÞ"
example(zv0 zn9 yc3 zy2):"D32/_law_sized/_law_state _law_broad/_law_way/D_law_take _law_state _law_many":="sWũ'ĳ,bÝWÊ3ĳWÊ3ĳĳ"
example(zx5 zr1 yh1 zd8):"D33/_law_kind/_law_state _law_wide _law_high _law_broad/_law_sizes _law_across _law_up _law_ways _law_great/D_law_take _law_state _law_many":="t&JĴĴË1įmÌ#7##?##ðòĵ'óVŪūŬŭòĵ3óVŪūŬŭ#/óJƿô.`ũ6@/óJƿô.nĐ8įmÌ#7##?##ðĶ'b(#ęĐ8įmÌ#7##?##ð(Ķ3b#ĖbnÊCŮmÌů/#7###???###ķ(Ķ3õSĸä5ĩd#TnÊCŮmÌů/#7###???###ķĶ'õSĸO+5(ĩd#nÊCŮmÌů/#7###???###ķĸO+5ĸä5ĩd#=öĹ*ĺoÂ**BoÂ**P1ĵ8óÍ÷÷ĻŰÎ."
example(zx6 zi4 zn2 zc3):"D34/_law_hall/_law_state _law_broad _law_much/_law_wide _law_high _law_cells _law_shuts _law_taken _law_kinds _law_places _law_rooms _law_turn _law_kind_here _law_place _law_own _law_room _law_cell/D_law_sized _law_state _law_broad/U_law_covered _law_kind_here _law_place/D_law_take _law_state _law_many/D_law_kind _law_state _law_wide _law_high _law_broad/U_law_room_of _law_wide _law_high _law_kind_here":="s}õlĭ)[Çpļ5øËT1ǀI%űaùǁǂŲĮ0+G)æ#7##k)ų_aùǁǂĠÈúÏĽhÜJËģ,ŴŵľĿ(-#á/ǃǄŀGùGU%%GùHŶŷÐ.Ȣ#ȣ;ȤŸŹt2:Dq:Ł(ûǅyÍǆüh55ulŴŵľĿztýüřplDÑþÅühØİ6f{(ĕühØİVf{(ÿ[Oý>ÑDźgŻp>ý=`żǇâK2(ǈŽǉĲĀ9ź3ĔÒŀāǊå/ÿÿāǊžȥ4Q^-'ſ#ƀƁ@ŁĲĀ9źĥ22{|ĥqq9Ñ=ĤGÿkÿéǋ<ĎA/9ǋÐLHÇpǌë%Së2Sëq"
example(zs7 zm3 zz6 yk1):"U35/_law_behind/_law_place _law_direction/":="=öĹ*ĺoǍ**ǎNyÍ÷ŰÎ5'1ƂNyÍ÷ĻŰÎ.'."
example(zx7 zr2 yh2 yv1):"U36/_law_goes/_law_kind_here _law_direction/":="LȦ4cNdǏcNYJô.đ'"
example(zx3 zi3 zn1 zd4):"U37/_law_step/_law_hall_here _law_stand _law_n _law_direction/_law_wide _law_high _law_shuts _law_kinds _law_going _law_at _law_one _law_ahead _law_other _law_own/U_law_covered _law_kind_here _law_place/U_law_behind _law_place _law_direction/U_law_goes _law_kind_here _law_direction":="T}Æ0ƃ&ǐ~&~)ł~%Ń/ńeâfY83(ĖJ>,Dq(ÝÄâĂK2@ŁYCĂázFǑY8Āĕ[]'ĀěTeÃĘh]8ĀěŅÒŀņå%zzņŇƄ;ň'ſ#ƀƁeĔÒşEăĄƅƆEUUM&M)Gzkzĉ_EăĄƅƆĪ+EăĄƅƆÓć-3ć'6Ƈ#ƈƉxûSK/ý|DÑF]8{Ü'{ęßĚ{CŅÒŀāǒåzÑÑāǒŇƄ;ň'ſ#ƀƁi22{ĦqñĂeßŽŤK2(ÊfY83ġ2Ƨƨ#"
example(zs5 zm1 zz4 zd7):"U38/_law_pushed/_law_hall_here _law_stand _law_push/_law_n _law_direction _law_many _law_turn _law_going _law_places _law_k/U_law_step _law_hall_here _law_stand _law_n _law_direction/U_law_behind _law_place _law_direction":="T}Æ,ƃ$Ǔ$&Ń)ńûĨ%t/ãínĜĝĞ8Ɗ%2ulƩƪ#çèĤG/k/éq<ƫŉ4QĂ[]CĂZƬƭƮƯŉưƱ<Ħ+ë2à+"
example(zm4 zm0 zz3 ze3):"U39/_law_pushes/_law_hall_here _law_stand/_law_found _law_n _law_direction _law_many _law_behind_here/U_law_pushed _law_hall_here _law_stand _law_push":="À:ûSħ$=û5&@)(D%ãøp5=ÄƋŊvwPsĥ,,HÇpĨ>%)ñB<Ħ%ǔ%øp5à,"
example(zs6 zm2 zz5 zf2):"U40/_law_layers/_law_hall_here _law_stand/_law_met _law_rungs _law_further _law_one _law_push _law_behind_here/U_law_pushes _law_hall_here _law_stand":="ÀƸ^'ÐD$ÍȧïǕJl.ÁÄÈǖÏy6Î:@&:īƵ#y6Î)=ÛÉFŶĨď%/=`ǗȨ4Q^83ğĎÙ8Ði&&8<i$$ǕòZƶ;Ʒ#ǘǙǚ4#6ǛǜïÎ"
example(zx4 zj9 zr8 zh1):"D41/_law_lane/_law_state/_law_shuts _law_first _law_y _law_gap _law_cells _law_place/D_law_take _law_state _law_many/U_law_covered _law_kind_here _law_place":="sá+:,bT`ÈŤîb(=ǝÉHĴË$xá&Ĳ(đƌǞȩ63Õ++śaăĄǟĮ$&Öæ×5_aăĄǟĠR-3HĢ1ǀműņŲå+Öæ#7##É[ÇĴļ5øËų_ņĠĚ-'-#|D%yBõSK)=öĹ*ĺƍƎ**ĺoŋ**(oŋ**(oÅ**uSġ+Ȫȫ#Ŝŝvw1ƎþƎþ÷ŋdĕb..1ø>%"
abbrev Gm:Stmt:=top 29
abbrev JX:List Str:=["_law_found","_law_due"]
def tf:CQ JX ["_law_found","_law_due"] (AI Gm):=by and_intros
def Gn(D4):{ B:Ax Unit // ∀P w K mg base (hm:Bn mg) (cs:Cst K mg) k (B5:Ce P w K mg base k "_law_same" ["_law_found","_law_due"] (Ed K D4)) f cdv A outer s H E,AQ k (A.deeper (envOfC "_law_same" (AI Gm) s.heap.objs.size f cdv))->
 BK (Cs CX0 P w K mg base JX "_law_same" (AI Gm) f cdv A outer s H E).nox (DQ K H) (B1 Gm) B }:=by
 refine{?B,λP w K mg base hm cs k B5 f cdv A outer s H E hr=>?h};case h=>exact"TWĜĝĞ'ŇĝĞĬ`ŌǠŸŹÁōÃǡƋǠŸŹ-RK0ħÒƏaǢǣǤĮ0+G+Ɛǥk+_aǢǣǤÓŇƄ;ň'F]'-Ü3-Ƈ#ƈƉÝ`ÃŌƑçèŌŊvwÝōRąƑçèŎƑçè'ōÃRąŊvwŎŊvw'RK0ħÒƏjƒƓǦUj0+ƐǥȬ#ȭðÆ0Ĉĉ_jƒƓĪ+jƒƓFĢƇ#ƈƉWŌǧŏŐÓąǧŏŐc-'ǨąȮľĿÓȯ4ąȰȱȲc-'" Gm k Gm B5
example(vx9 vk5 vm8 zt5):"L42/law/_law_script/_law_state _law_broad _law_hall_here _law_stand _law_due _law_held _law_most _law_found/D_law_take _law_state _law_many/D_law_hall _law_state _law_broad _law_much/D_law_lane _law_state/U_law_layers _law_hall_here _law_stand/Ulayers hall stand most/U_law_same _law_found _law_due":="ÀǩúÏő(}ĽŧäÜJËģ,ŴŵľĿĭsnÈúÏő(ǪĽh.ĭ)gří@%uŒíǫ;Ǭ#ŏŐčÍÅőƂǭƔƕK)ő./oȳI2ȴ$ȵ&ȶ/#ȷȸI27#XȹŻ;#ĆêĆA&ĆA/œ**ǮǯǰƖƗƘȺȻŉȼÞĆA&œǮǯǰƖƗƘŉĆȽœœĘǱĵCǚ4#BǛǜïñ8LÐÁōĘǱÅgŻp5ŒŒZcuŒíǫ;Ǭ#ŏŐP"
section
variable{P:Program}{w:World}{K:FG}{mg:Str->Option Value}{base:Heap}
open H in
def tj(F:Cr K "law" "law" vk5 f fd){k:Nat}(u:Ce P w K mg base k "_law_begin" ["_law_script"] (Ix K))(v:∀(p l:Addr) (c:Value) (A:Around) (b:List Env) (s:Shared) (H:Hp) (E:XK),AQ k (A.deeper (envOfC "law" (AI vk5) s.heap.objs.size f c))->BK (Cs CX0 P w K mg base vm8 "law" (AI vk5) f c A b s H E).nox (DF (Ef p l) K (λ_=>none)) ((B1 vk5).drop 1) B)(o:∀ns:List Int,ns.length<=63->Aa (B (CL vm8.length) (E5 ns,0)) (λg _=>g=.rt (.bl true)) λ_ _=>False):BS P w K mg base CX0 (k+1) f fd ["_law_script"] (spLaw K):=by
 refine F.ok zt5 (λa H Q E h=>?_) (λc A b s H a Q E e h=>?_)
 ·obtain⟨a,ns,rfl,_⟩:=h;rfl
 ·obtain⟨a,ns,rfl,f,d,q⟩:=h
  obtain⟨y,r,n,j,x,h⟩:=u.ex;refine{_,bp (bv (i:=1) zt5.nd rfl (Or.inl rfl) (cY (E:=E0) h e (by rfl) n j x .nil da (aT (pv 0) bg))) (qE (K:=K) λp l=>v p l c A b s H E e),?_};refine{.ref a,rfl,a,ns,rfl,f,d,λp l h b a f c e=>?_};have b:(E5 ns).length<=63/\E5 ns≠[]:=by
   unfold E5;split
   ·exact{'z','d'}
   ·rename_i a;exact⟨d,a⟩
  refine{p,l,CL vm8.length,(E5 ns,0),qF (m:=vm8.length-2),{c,e,b.2,b.1,Int.le_refl 0},?_};refine aj (o ns d) (λg a e=>?_) λx a e=>e.elim
  subst e;intro v H2 _ _ z;rw[Is.bl_iff.mp z];exact q H2
end
section
variable{S:Type}
def lP{g:BQ}(I:Nat->Ae->S->Prop){l:List D}{Z:Ae}{b:S}(n:Nat)(e:I n Z b)(j:∀i d Z b,l[i]?=some d->I (n+i) Z b->∀P:Fl->S->Prop,(∀c a,I (n+i+1) c a->P (.nx c) a)->(∀d a,Q (.rt d) a->P (.rt d) a)->∃c,g d Z=some c/\Aa (B c b) P E)(f:∀Z b,I (n+l.length) Z b->Q (.nx Z) b):Aa (DK S g B l Z b) Q E:=
 gr I n e (λi d Z b h a=>j i d Z b h a _ (λ_ _ z=>z) λ_ _ z=>z) f
def aL{g:BQ}(I:Nat->Ae->S->Prop){l:List D}{Z:Ae}{a:S}(n:Nat)(f:I n Z a)(j:∀i d Z a,l[i]?=some d->I (n+i) Z a->∀P:Fl->S->Prop,(∀c b,I (n+i+1) c b->P (.nx c) b)->∃e,g d Z=some e/\Aa (B e a) P E)(c:∀Z a,I (n+l.length) Z a->Q (.nx Z) a):Aa (DK S g B l Z a) Q E:=
 gr I n f (λi d Z a h b=>j i d Z a h b _ λ_ _ z=>z) c
def cw{F G:Ax S}{Z:Ae}{c:S}(I:Ae->S->Prop)(d:∀P:Fl->S->Prop,(∀b a,I b a->P (.nx b) a)->Aa (F Z c) P E)(e:∀b a,I b a->Aa (G b a) Q E):Aa (E3 S F G Z c) Q E:=
 qO I (d _ λb a h=>⟨b,rfl,h⟩) e
def cO{t:AO S}{Z:Ae}{e:S}(I:Ae->S->Prop)(μ:Ae->S->Nat)(g:I Z e)(i:∀Z e,I Z e->∀(P:Fl->S->Prop) (f:S->Prop),(∀c a,I c a->μ c a<μ Z e->P (.nx c) a)->(∀d b,Q (.rt d) b->P (.rt d) b)->(∀c,Q (.nx Z) c->f c)->Aa (t Z e) (λb c=>if b=true then Aa (B Z c) P E else f c) E):Aa (FJ S t B Z e) Q E:=
 qN I μ g λZ e h=>i Z e h _ (λc=>Q (.nx Z) c) (λ_ _ a b=>⟨a,b⟩) (λ_ _ z=>z) λ_ z=>z
end
def ff{i j:Int}(h:DJ i j):IB (.int i) (.int j)=some (.int (i*j)):=by
 unfold IB;rw[gv h];rfl
abbrev Al:=Int×Int
def Ah(p:Al):D:=.tup [.int p.1,.int p.2]
def ax(p:Al):(Ah p).imm=true:=by simp[Ah,D.imm,D.immL]
def tm(p:Al):(Ah p).lw=true:=ki (by simp[D.lwL,D.lw]) 'd'
def lQ(p:Al):(Ah p).dep<=1:=by simp[Ah,D.dep,D.depL]
def Dd(h:Int)(p:Al)(i:Nat):List Al:=(List.range h.toNat).map λ(j:Nat)=>(p.1+(i:Int),p.2+(j:Int))
def AL(w h:Int)(p:Al):List Al:=(List.range w.toNat).flatMap (Dd h p)
def bX{w h:Int}:q∈AL w h p↔p.1<=q.1/\q.1<p.1+w/\p.2<=q.2/\q.2<p.2+h:=by
 unfold AL Dd;simp only[EE,EF,B7];constructor
 ·rintro ⟨i,a,j,b,rfl⟩
  refine{?_,?_,?_,?_}<;>simp<;>omega
 ·rintro ⟨b,c,a,d⟩
  refine{(q.1-p.1).toNat,'o',(q.2-p.2).toNat,'o',?_};refine Prod.ext ?_ ?_<;>simp<;>omega
def tq{w h:Int}:(AL w h p).length=w.toNat*h.toNat:=by
 unfold AL Dd;rw[List.length_flatMap];simp only[Ag,Dy,List.map_const',List.sum_replicate_nat]
instance kd(w h:Int)(ways:Str)(s:Int):D:=.tup [.int w,.int h,.str ways,.int s]
def hB{w h:Int}{a:Str}{s:Int}:(kd w h a s).imm=true:=by simp[kd,D.imm,D.immL]
def at0:BD [a,b,c,d] 0=some a:=rfl
def at1:BD [a,b,c,d] 1=some b:=rfl
def at2:BD [a,b,c,d] 2=some c:=rfl
def at3:BD [a,b,c,d] 3=some d:=rfl
def pt0:BD [a,b] 0=some a:=rfl
def pt1:BD [a,b] 1=some b:=rfl
def FQ:List D->Ap Unit D:=Bv 4 2 zp4.1
def dQ(b:D.immL m=true)(a:l.length+m.length<=1000):Hr l (.lst m)=some (l++m):=by
 show (if D.immL m=true/\l.length+m.length<=sizeLine then some (l++m) else none)=_;rw[if_pos {b,aU a}]
def hC{a b c d:Nat}(e:a<=c)(f:b<=d):a*b<=c*d:=Nat.mul_le_mul e f
def dR{w h:Int}{ways:Str}{s:Int}(b:w<=30)(a:h<=30)(b:0<=w)(f:0<=h)(g:Q (.lst ((AL w h p).map Ah)) ()):Aa (FQ [kd w h ways s,Ah p]) Q E:=by
 refine aE rfl 'z' ?_;unfold zp4;dsimp only;simp?! [ao,aV,kd,Ba,at0,at1];rw[bE 'o' b];refine aL (λi Z a=>∃x,Z=[.bor (kd w h ways s),.bor (Ah p),.own (.lst (((List.range i).flatMap (Dd h p)).map Ah)),x]) 0 {_,rfl} (λi d Z a b c P l=>?_) λZ a c=>?_
 ·obtain⟨x,e⟩:=c
  obtain⟨rfl,j⟩:=bt b;subst e;have a:∀i:Nat,D.immL (((List.range i).flatMap (Dd h p)).map Ah)=true:=λi=>al ax _
  refine{_,rfl,?_};simp?! [ao,Bj,a,kd,Ba,at0,at1];rw[bE 'o' f];refine bW (λd=>match d with | .int j=>Ah (p.1+(i:Int),p.2+j) | _=>.non) (λZ=>∃x,Z=[x,.bor (.int (0+(i:Int))),.bor (Ah p)]) {_,rfl} (λd b Z hI135=>?_) (aU (by rw[br];omega)) ?_
  ·obtain⟨x,e⟩:=hI135
   subst e;obtain⟨j,f⟩:=D7 b;obtain⟨rfl,m⟩:=bt f;refine{_,rfl,{_,rfl},⟨rfl,rfl⟩,?_};simp?! [ao,Ah,Ba,pt0,pt1,BO,AR,aR];simp
  ·have e:(Db 0 h.toNat).map (λd=>match d with | .int j=>Ah (p.1+(i:Int),p.2+j) | _=>D.non)=(Dd h p i).map Ah:=by
    unfold Db Dd;rw[Cz,Cz];refine List.map_congr_left λj _=>?_
    simp[Ah]
   rw[e];refine{_,dQ (al ax _) ?_,l _ _ {.bor (.int (0+(i:Int))),?_}}
   ·rw[Ag,Ag,List.length_flatMap]
    unfold Dd;simp only[Ag,Dy,List.map_const',List.sum_replicate_nat];have:i*h.toNat<=29*30:=hC 'o' 'o';omega
   ·rw[FX,Ft,BG]
    simp[kd]
 ·obtain⟨x,e⟩:=c
  subst e;rw[br,Ay];have a:∀i:Nat,D.immL (((List.range i).flatMap (Dd h p)).map Ah)=true:=λi=>al ax _
  simp?! [ao,a];exact g
def IQ:List D->Ap Unit D:=Bv 5 3 zp3.1
def CI(A5 A4 w h:Int)(ways:Str):Int:=if ways = "any" then (A5-w+1)*(A4-h+1) else if ways = "row" then A5-w+1 else if ways = "column" then A4-h+1 else 1
def De(x:Str):Prop:=x = "any"\/x = "row"\/x = "column"\/x = "none"
def tu{c b w h:Int}{a:Str}{s:Int}(d:0<=c-w)(e:c-w<=100)(d:0<=b-h)(e:b-h<=100)(f:De a)(g:Q (.int (CI c b w h a)) ()):Aa (IQ [.int c,.int b,kd w h a s]) Q E:=by
 refine aE rfl 'z' ?_;unfold zp3;dsimp only;have e:DJ (c-w+1) (b-h+1):=.inl {'o','o'};simp?! [ao,kd,Ba,at0,at1,at2,AR,BO,GR,ff e];have d:Gb a ["any","row","column","none"] [D.int ((c-w+1)*(b-h+1)),D.int (c-w+1),D.int (b-h+1),D.int 1]=some (.int (CI c b w h a)):=by
  rcases f with e | e | e | e<;>subst e<;>rfl
 rw[d];exact{.inl ah,g}
def IR:List D->Dr->Ap Dr D:=El 3 2 (zv0 CV).1
def tw{b:Bool}{c:Dr}{Q:D->Dr->Prop}{E:AG->Dr->Prop}(a:c.2<2 ^ 39)(h:∀(w h:Int) a,1<=w->w<=9->1<=h->h<=9->(b=true->5<=w/\4<=h)->a.2<=c.2+3->Q (.tup [.int w,.int h]) a):Aa (IR [.bl b] c) Q E:=by
 refine dD rfl 'z' ?_;unfold zv0;dsimp only;simp?! [ao];cases b with
 | true=>
   simp?! [ao];refine ay 'z' 'z' 'o' λl b j e m=>?_
   simp?! [BO,AR,ao];refine ay 'z' 'z' 'o' λd a f i g=>?_
   simp?! [BO,AR,ao,aR];exact h _ _ _ 'o' 'o' 'o' 'o' (λ_=>{'o','o'}) 'o'
 | false=>
   simp?! [ao];refine ay 'z' 'z' 'o' λl b j e m=>?_
   simp?! [Bq,D.dep,D.eqq,AE,BJ,ao];split
   ·refine ay 'z' 'z' 'o' λd a f i g=>?_
    simp?! [BO,AR,ao];refine ay 'z' 'z' 'o' λj b m n l=>?_
    simp?! [BO,AR,ao,aR];exact h _ _ _ 'o' 'o' 'o' 'o' (λe=>by cases e) 'o'
   ·split
    ·refine ay 'z' 'z' 'o' λd a f i g=>?_
     simp?! [BO,AR,ao];refine ay 'z' 'z' 'o' λj b m n l=>?_
     simp?! [BO,AR,ao,aR];exact h _ _ _ 'o' 'o' 'o' 'o' (λe=>by cases e) 'o'
    ·refine ay 'z' 'z' 'o' λd a f i g=>?_
     simp?! [BO,AR,ao];refine ay 'z' 'z' 'o' λj b m n l=>?_
     simp?! [BO,AR,ao,aR];exact h _ _ _ 'o' 'o' 'o' 'o' (λe=>by cases e) 'o'
def lR{v:Int}(b:0<=v)(c:v<6):∃s:Int,Ba (.lst [.int 1,.int 1,.int 1,.int 2,.int 2,.int 3]) (.int v)=some (.int s)/\1<=s/\s<=3:=by
 obtain⟨d,a,e⟩:=dG (l:=[.int 1,.int 1,.int 1,.int 2,.int 2,.int 3]) (by simp[D.immL,D.imm]) b (by simpa using c);rw[e];simp only[AK,DC,or_false] at a;rcases a with r | r | r | r | r | r<;>subst r<;>exact{_,rfl,'z','z'}
def tz{v:Int}(b:0<=v)(c:v<6):∃s:Str,Ba (.lst [.str "any",.str "any",.str "row",.str "column",.str "row",.str "none"]) (.int v)=some (.str s)/\De s:=by
 obtain⟨d,a,e⟩:=dG (l:=[.str "any",.str "any",.str "row",.str "column",.str "row",.str "none"]) (by simp[D.immL,D.imm]) b (by simpa using c);rw[e];simp only[AK,DC,or_false] at a;rcases a with r | r | r | r | r | r<;>subst r<;>exact{_,rfl,by simp[De]}
def tE{v:Int}(b:0<=v)(c:v<6):∃s:Str,Ba (.lst [.str "row",.str "column",.str "row",.str "column",.str "any",.str "none"]) (.int v)=some (.str s)/\De s:=by
 obtain⟨d,a,e⟩:=dG (l:=[.str "row",.str "column",.str "row",.str "column",.str "any",.str "none"]) (by simp[D.immL,D.imm]) b (by simpa using c);rw[e];simp only[AK,DC,or_false] at a;rcases a with r | r | r | r | r | r<;>subst r<;>exact{_,rfl,by simp[De]}
def tF{v:Int}(b:0<=v)(c:v<6):∃s:Int,Ba (.lst [.int 0,.int 0,.int 1,.int 1,.int 1,.int (-1)]) (.int v)=some (.int s)/\(s=0\/s=1\/s=-1):=by
 obtain⟨d,a,e⟩:=dG (l:=[.int 0,.int 0,.int 1,.int 1,.int 1,.int (-1)]) (by simp[D.immL,D.imm]) b (by simpa using c);rw[e];simp only[AK,DC,or_false] at a;rcases a with r | r | r | r | r | r<;>subst r<;>exact{_,rfl,'z'}
def cP(h:a.imm=true)(e:b.imm=true)(g:c.imm=true)(f:d.imm=true):CD [a,b,c,d]=some (.tup [a,b,c,d]):=cJ (by simp[D.immL,h,e,g,f]) 'd'
def IS:List D->Dr->Ap Dr D:=El 9 4 (zx5 CV).1
def D3(a b:Int):Int:=if b<a then b else a
def dU{a b:Int}:Il (λi j=>if j<i then j else i) [.int a,.int b]=some (.int (D3 a b)):=rfl
def cQ{a b:Int}:D3 a b<=a/\D3 a b<=b/\(D3 a b=a\/D3 a b=b):=by unfold D3;split<;>omega
def tH{e d:Int}{l:Bool}{v:Dr}{Q:D->Dr->Prop}{E:AG->Dr->Prop}(c:v.2<2 ^ 39)(f:1<=e)(c:e<=9)(f:1<=d)(c:d<=9)(p:l=true->5<=e/\4<=d)(h:∀(a u:Int) (f:Str) (s:Int) c,1<=a->a<=e->1<=u->u<=d->De f->(s=0\/s=1\/s=-1)->c.2<=v.2+11->Q (kd a u f s) c):Aa (IS [.int e,.int d,.bl l] v) Q E:=by
 refine dD rfl 'z' ?_;unfold zx5;dsimp only;simp_all!;simp! [bi];simp_all!;simp!;refine ay 'z' 'z' 'o' λi g f j m=>?_
 obtain⟨g,i,n,m⟩:=lR f j;simp! [i,dU];refine ay 'z' 'z' 'o' λi f m j n=>?_
 obtain⟨f,i,o,n⟩:=lR m j;simp! [i,dU];simp_all!;simp! [bi];refine ay 'z' 'z' 'o' λj i q m r=>?_
 obtain⟨j,o,n⟩:=tz q m;simp! [o];have i:=cQ (a:=e) (b:=g);have m:=cQ (a:=d) (b:=f);generalize D3 e g=A1 at i;generalize D3 d f=A2 at m;refine cw (λZ c=>∃(a u:Int) (x:Str) (y:Sl),Z=[Sl.hnd,.bor (.int e),.bor (.int d),.bor (.bl l),.own (.lst [.int 1,.int 1,.int 1,.int 2,.int 2,.int 3]),.bor (.int a),.bor (.int u),.bor (.str x),y]/\1<=a/\a<=e/\1<=u/\u<=d/\De x/\c.2<=v.2+6) ?_ ?_
 ·intro f g
  simp!;cases l with
  | false=>
    simp!;exact g _ _ {A1,A2,j,_,rfl,'o','o','o','o',n,'o'}
  | true=>
    obtain⟨f,i⟩:=p rfl;rw[if_pos rfl,ao];simp! [bi];refine ay 'z' 'z' 'o' λr o z B C=>?_
    obtain⟨i,f,A⟩:=tE z B;simp! [f];refine cw (λZ c=>∃(a u:Int) (y:Sl),Z=[Sl.hnd,.bor (.int e),.bor (.int d),.bor (.bl true),.own (.lst [.int 1,.int 1,.int 1,.int 2,.int 2,.int 3]),.bor (.int a),.bor (.int u),.bor (.str i),y]/\1<=a/\a<=e/\1<=u/\u<=d/\c.2<=o.2+1) ?_ ?_
    ·intro P2 f
     simp! [Bq,D.dep,D.eqq,AE,BJ];split
     ·refine ay 'z' 'z' 'o' λs i n m q=>?_
      simp! [AR];exact f _ _ {_,_,_,rfl,'o','o','o','o','o'}
     ·exact f _ _ {A1,A2,_,rfl,'o','o','o','o','o'}
    ·rintro p i ⟨a,u,y,rfl,g1,g2,g3,g4,f⟩
     simp! [Bq,D.dep,D.eqq,AE,BJ];split
     ·refine ay 'z' 'z' 'o' λs j n m q=>?_
      simp! [AR];exact g _ _ {_,_,_,_,rfl,'o','o','o','o',A,'o'}
     ·exact g _ _ {a,u,_,_,rfl,'o','o','o','o',A,'o'}
 ·rintro p o ⟨a,u,x,y,rfl,g1,g2,g3,g4,f,g⟩
  simp_all!;simp!;refine ay 'z' 'z' 'o' λr i z B C=>?_
  simp!;refine cw (λZ c=>∃(a u:Int) (x:Str),Z=[Sl.hnd,.bor (.int e),.bor (.int d),.bor (.bl l),.own (.lst [.int 1,.int 1,.int 1,.int 2,.int 2,.int 3]),.bor (.int a),.bor (.int u),.bor (.str x),.bor (.int r)]/\1<=a/\a<=e/\1<=u/\u<=d/\De x/\c.2<=i.2+1) ?_ ?_
  ·intro i g
   simp! [Bq,D.dep,D.eqq,AE,BJ];split
   ·have i:=cQ (a:=d) (b:=3)
    simp! [dU];generalize D3 d 3=B at i;refine ay 'o' 'o' 'o' λs j n m q=>?_
    simp! [AR];exact g _ _ {_,_,_,rfl,'o','o','o','o',by simp[De],'o'}
   ·exact g _ _ {a,u,x,rfl,'o','o','o','o',f,'o'}
  ·rintro p j ⟨a,u,x,rfl,g1,g2,g3,g4,f,g⟩
   refine cw (λZ c=>∃(a u:Int) (x:Str),Z=[Sl.hnd,.bor (.int e),.bor (.int d),.bor (.bl l),.own (.lst [.int 1,.int 1,.int 1,.int 2,.int 2,.int 3]),.bor (.int a),.bor (.int u),.bor (.str x),.bor (.int r)]/\1<=a/\a<=e/\1<=u/\u<=d/\De x/\c.2<=j.2+1) ?_ ?_
   ·intro j g
    simp! [Bq,D.dep,D.eqq,AE,BJ];split
    ·have i:=cQ (a:=e) (b:=3)
     simp! [dU];generalize D3 e 3=B at i;refine ay 'o' 'o' 'o' λs j n m q=>?_
     simp! [AR];exact g _ _ {_,_,_,rfl,'o','o','o','o',by simp[De],'o'}
    ·exact g _ _ {a,u,x,rfl,'o','o','o','o',f,'o'}
   ·rintro p j ⟨a,u,x,rfl,g1,g2,g3,g4,f,g⟩
    refine cw (λZ c=>∃(a u:Int) (x:Str),Z=[Sl.hnd,.bor (.int e),.bor (.int d),.bor (.bl l),.own (.lst [.int 1,.int 1,.int 1,.int 2,.int 2,.int 3]),.bor (.int a),.bor (.int u),.bor (.str x),.bor (.int r)]/\1<=a/\a<=e/\1<=u/\u<=d/\De x/\c.2<=j.2) ?_ ?_
    ·intro g c
     simp! [Bq,D.dep,D.eqq,AE,BJ];split
     ·have i:=cQ (a:=e) (b:=4)
      have g:=cQ (a:=d) (b:=4);simp! [dU];generalize D3 e 4=B at i;generalize D3 d 4=B' at g;exact c _ _ {_,_,_,rfl,'o','o','o','o',by simp[De],'o'}
     ·exact c _ _ {a,u,x,rfl,'o','o','o','o',f,'o'}
    ·rintro p c ⟨a,u,x,rfl,g1,g2,g3,g4,f,c⟩
     simp! [bi];refine ay 'z' 'z' 'o' λs c n m q=>?_
     obtain⟨g,i,j⟩:=tF n m;simp! [i,cP];exact h a u x g c g1 g2 g3 g4 f j 'o'
structure Tr where
 w:Int
 h:Int
 ways:Str
 s:Int
 x:Int
 y:Int
instance Tr.kind(t:Tr):D:=kd t.w t.h t.ways t.s
instance Tr.place(t:Tr):D:=Ah (t.x,t.y)
instance Tr.cells(t:Tr):List Al:=AL t.w t.h (t.x,t.y)
structure FR(A5 A4:Int)(sh:List Al)(t:Tr):Prop where
 w1:1<=t.w
 h1:1<=t.h
 x0:0<=t.x
 xw:t.x+t.w<=A5
 y0:0<=t.y
 yh:t.y+t.h<=A4
 ways:De t.ways
 st:t.s=0\/t.s=1\/t.s=-1
 free:∀c∈t.cells,c∉sh
structure Bc(A5 A4:Int)(sh:List Al)(ts:List Tr):Prop where
 w1:1<=A5
 w9:A5<=9
 h1:1<=A4
 h9:A4<=9
 sub:sh.Sublist (AL A5 A4 (0,0))
 few:ts.length<=12
 tr:∀t∈ts,FR A5 A4 sh t
 apart:ts.Pairwise λa b=>∀c∈a.cells,c∉b.cells
def Ar(A5 A4:Int)(sh:List Al)(ts:List Tr):D:=.tup [.int A5,.int A4,.tup (sh.map Ah),.tup (ts.map Tr.kind)]
def Ai(ts:List Tr):D:=.tup (ts.map Tr.place)
def bY(t:Tr):t.kind.imm=true:=hB
def bc(t:Tr):t.place.imm=true:=ax _
instance ck(c:Al):List Ak:=[.inl c.1,.inl c.2]
def dV(c:Al):AJ (Ah c)=some (ck c):=rfl
def lS(h:ck a=ck b):a=b:=by
 unfold ck at h;have c:a.1=b.1/\a.2=b.2:=by simpa using h
 exact Prod.ext c.1 c.2
instance inT(T:List Al)(k:List Ak):Prop:=∃c∈T,ck c=k
def tJ:inT T (ck c)↔c∈T:={λ⟨d,a,e⟩=>by rw[<-lS e];exact a,λh=>⟨c,h,rfl⟩}
def bF{w h:Int}(b:w<=9)(a:h<=9):(AL w h p).length<=81:=by
 rw[tq];exact hC (c:=9) (d:=9) 'o' 'o'
def IT(T:List Al):D->D
 | .tup [.int x,.int y]=>.bl (decide ((x,y)∈T))
 | _=>.non
def lT(T:List Al)(l:List Al):(l.map Ah).map (IT T)=l.map λc=>.bl (decide (c∈T)):=by rw[Cz];rfl
def CY(A5 A4:Int)(ts:List Tr):Int:=ts.foldr (λt r=>CI A5 A4 t.w t.h t.ways*r) 1
theorem lU{a b:Int}:∀{c:List Tr},CY a b (c++[t])=CY a b c*CI a b t.w t.h t.ways
 | []=>by simp[CY]
 | u::c=>by
   show CI a b u.w u.h u.ways*CY a b (c++[t])=CI a b u.w u.h u.ways*CY a b c*CI a b t.w t.h t.ways;rw[lU,Int.mul_assoc]
def IU:List D->Dr->Ap Dr D:=El 17 3 (zx6 IR FQ CV IS IQ).1
def FS(d:D):D:=.tup [d,.bl true]
def tK(l:List Al):EQ ((l.map Ah).map FS)=some (l.map λc=>(ck c,.bl true)):=by
 induction l with
 | nil=>rfl
 | cons c l ih=>
   show EQ (.tup [Ah c,.bl true]::(l.map Ah).map FS)=_;unfold EQ;rw[if_pos (by simp[D.imm]),dV,ih];rfl
open H in
def tL{B6:Bool}{l:Int}{st:Dr}{Q:D->Dr->Prop}{E:AG->Dr->Prop}(hs:st.2<2 ^ 38)(hm1:1<=l)(hm2:l<=1000000000000)(hq:∀r o g z O,Bc r o g z->CY r o z<=l->O.2<=st.2+500->Q (.tup [Ar r o g z,Ai z]) O):Aa (IU [.bl B6,.int l] st) Q E:=by
 refine dD rfl 'z' ?_;unfold zx6;dsimp only;simp_all!;simp!;refine tw 'o' λr o st1 w1 w9 G h9 hb t1=>?_
 simp!;simp_all!;simp! [cP,aR];refine dR (ways:="none") (s:=0) (p:=(0,0)) 'o' 'o' 'o' 'o' ?_;simp! [al ax];simp_all!;simp!;have hc81:(AL r o (0,0)).length<=81:=bF w9 h9;refine cI (λn acc Z O=>∃g x,acc=g.map Ah/\g.Sublist ((AL r o (0,0)).take n)/\Z=[x,Sl.hnd,.bor (.bl B6)]/\O.2<=st1.2+n) 0 {[],_,rfl,'d',rfl,'d'} (λi d acc Z O A hI=>?_) λacc Z O hI=>?_
 ·obtain⟨g,x,e1,e2,e3,e4⟩:=hI
  rw[AT] at A;cases q:(AL r o (0,0))[i]? with
  | none=>rw[q] at A;cases A
  | some c=>
    rw[q] at A;cases A;subst e1 e3;have hi:i<(AL r o (0,0)).length:=(AZ.mp q).1;have hsl:=e2.length_le;rw[C7] at hsl;have J:(AL r o (0,0)).take (i+1)=(AL r o (0,0)).take i++[c]:=by rw[Cy,q];rfl
    rw[Ay] at e2 e4;refine{_,rfl,?_};simp! [GN,eR,gt];have tk2:∃m:Int,(if B6=true then D.int 20 else D.int 9)=.int m/\0<m/\m<1073741824:=by
     split
     ·exact{_,rfl,'z','z'}
     ·exact{_,rfl,'z','z'}
    obtain⟨m,em,m0,m1⟩:=tk2;rw[em];refine ay m0 m1 'o' λv st2 a2 b2 c2=>?_
    simp! [Bq,D.dep,D.eqq,AE,BJ];split
    ·refine{ax c,lt_size (by rw[Ag];omega),g++[c],_,by rw[BG];rfl,?_,rfl,'o'}
     rw[J];exact e2.append (List.Sublist.refl _)
    ·refine{g,_,rfl,?_,rfl,'o'}
     rw[J];exact e2.trans (List.sublist_append_left _ _)
 ·obtain⟨g,x,e1,e2,e3,e4⟩:=hI
  subst e1;rw[Ay,Ag,C6] at e2;rw[Ay,Ag] at e4;have hsh:g.length<=81:=Az e2.length_le hc81;simp! [al ax];simp_all!;simp!;refine bW FS (λZ=>∃x,Z=[x]) {_,rfl} (λd A Z hI136=>?_) (aU (by rw[Ag];omega)) ?_
  ·obtain⟨x,e⟩:=hI136
   subst e;obtain⟨c,R,rfl⟩:=B7.mp A;refine{_,rfl,{_,rfl},⟨rfl,rfl⟩,?_};simp! [aR,ax,FS]
  ·have od:Iv [.lst ((g.map Ah).map FS)]=some (.dct (.non::(Cw (g.map λc=>(ck c,.bl true)) ([],[])).1) (Cw (g.map λc=>(ck c,.bl true)) ([],[])).2):=by
    show (if ((g.map Ah).map FS).length<sizeLine then (EQ ((g.map Ah).map FS)).map _ else none)=_;rw[if_pos (lt_size (by simp;omega)),tK];rfl
   have hh:=Holds.all (ps:=g.map λc=>(ck c,D.bl true)) (Holds.nil (n:=0)) (λp hp=>by obtain⟨c,_,rfl⟩:=B7.mp hp;exact aI);have hT:Holds (.dct (.non::(Cw (g.map λc=>(ck c,.bl true)) ([],[])).1) (Cw (g.map λc=>(ck c,.bl true)) ([],[])).2) g.length (inT g):=hh.imp 'd' λk=>by
    simp only[false_or,B7,inT];constructor
    ·rintro ⟨p,⟨c,R,rfl⟩,e⟩;exact⟨c,R,e⟩
    ·rintro ⟨c,R,e⟩;exact{_,⟨c,R,rfl⟩,e}
   rw[od];generalize D.dct (.non::(Cw (g.map λc=>(ck c,.bl true)) ([],[])).1) (Cw (g.map λc=>(ck c,.bl true)) ([],[])).2=J at hT;have fl:=hT.flat;simp! [fl];simp_all!;simp! [aV];simp_all!;simp! [aV];simp_all!;simp!;simp_all!;simp!;refine ay 'z' 'z' 'o' λv2 st2 a2 b2 c2=>?_
   have hmany:∃I:Int,(if B6=true then D.int 30 else D.int (2+v2))=.int I/\0<=I/\I<=30:=by
    split
    ·exact{_,rfl,'o','o'}
    ·exact{_,rfl,'o','o'}
   obtain⟨I,em,hm0,hm3⟩:=hmany;simp! [BO,AR,GN,eR,gt,em];rw[bE 'o' hm0];refine aL (λi Z f=>∃(z:List Tr) (T:List Al) (J:D) (M:Int) (y11 y12 y13 y14 y15 B:Sl),Z=[Sl.hnd,.bor (.bl B6),.bor (.int l),.bor (.int r),.bor (.int o),.own (.lst ((AL r o (0,0)).map Ah)),.own (.lst (g.map Ah)),.own J,.own (.lst (z.map Tr.kind)),.own (.lst (z.map Tr.place)),.bor (.int M),y11,y12,y13,y14,y15,B]/\Bc r o g z/\Holds J (81+81*i) (inT T)/\(∀c,c∈T↔c∈g\/∃t∈z,c∈t.cells)/\1<=M/\M<=l/\M=CY r o z/\f.2<=st2.2+13*i) 0 {[],g,J,1,_,_,_,_,_,_,rfl,{w1,w9,G,h9,e2,'d',λt C=>(by cases C),List.Pairwise.nil},hT.imp 'o' λ_=>Iff.rfl,'d','o','o',rfl,'d'} (λi d Z f A hI P pn=>?_) λZ f hI=>?_
   ·obtain⟨z,T,J,M,y11,y12,y13,y14,y15,B,er,ho,hT,R,U,Y,N,hst⟩:=hI
    obtain⟨rfl,hi⟩:=bt A;subst er;rw[Ay] at hT hst;have hb2:f.2<2 ^ 38+1000:=by omega
    have hi30:i<30:=by omega
    clear hs t1 e4 c2 a2 b2 hm0 hm3 hi em;refine{_,rfl,?_};simp_all!;simp!;refine tH 'o' w1 w9 G h9 hb λa u ways s st3 g1 g2 g3 g4 g5 g6 t3=>?_
    have kf:(kd a u ways s).flat=false:=rfl;simp! [kf];simp_all!;simp! [kd,Ba,at0,at1,AR,BO];refine ay 'o' 'o' 'o' λx st4 a4 b4 c4=>?_
    refine ay 'o' 'o' 'o' λy st5 a5 b5 c5=>?_
    simp! [aR];simp_all!;simp!;refine dR (p:=(x,y)) 'o' 'o' 'o' 'o' ?_;simp! [al ax];simp_all!;simp!;refine tu 'o' 'o' 'o' 'o' g5 ?_;have W:1<=CI r o a u ways/\CI r o a u ways<=81:=by
     have z1:1<=r-a+1/\r-a+1<=9:=by omega
     have z2:1<=o-u+1/\o-u+1<=9:=by omega
     unfold CI;split
     ·constructor
      ·have:=Int.mul_le_mul z1.1 z2.1 'o' 'o';omega
      ·have:=Int.mul_le_mul z1.2 z2.2 'o' 'o';omega
     ·split
      ·omega
      ·split<;>omega
    generalize hrm:CI r o a u ways=room at W;have hown:(AL a u (x,y)).length<=81:=bF 'o' 'o';have cm:DJ M room:=.inr {'o','o'};simp! [Cv,Ag,AR,ff cm];split
    ·rename_i hlen
     have hlen:z.length<12:=by have:=of_decide_eq_true hlen;omega
     split
     ·rename_i hle
      have hle:M*room<=l:=of_decide_eq_true hle;refine bW (IT T) (λZ=>∃x,Z=[x,.bor J]) {_,rfl} (λd A Z hI137=>?_) (aU (by rw[Ag];omega)) ?_
      ·obtain⟨x',e⟩:=hI137
       subst e;obtain⟨c,hc',rfl⟩:=B7.mp A;refine{_,rfl,{_,rfl},⟨rfl,rfl⟩,?_};simp! [(hT.in_ (dV c) (b:=decide (c∈T)) (by rw[decide_eq_true_eq,tJ])).1];rfl
      ·rw[lT]
       simp! [Fi,dE,BJ];split
       ·rename_i hany
        have hfree:∀c∈AL a u (x,y),c∉T:=λc hc' hcT=>by
         have:(List.map (λc=>decide (c∈T)) (AL a u (x,y))).any id=true:=by
          rw[List.any_map,List.any_eq_true];exact{c,hc',by simpa using hcT}
         rw[this] at hany;cases hany
        have hpos:1<=M*room:=by have:=Int.mul_le_mul U W.1 'o' 'o';omega
        simp_all!;simp! [ff cm];simp_all!;simp! [Bj,al bY];refine{_,bz (by simp[D.imm,D.immL]) (by rw[Ag];omega),?_};simp_all!;simp! [Bj,al bc];refine{_,bz (by simp[D.imm,D.immL]) (by rw[Ag];omega),?_};simp!;refine aL (λj Z f=>∃(tk':D) (B:Sl),Z=[Sl.hnd,.bor (.bl B6),.bor (.int l),.bor (.int r),.bor (.int o),.own (.lst ((AL r o (0,0)).map Ah)),.own (.lst (g.map Ah)),.own tk',.own (.lst (z.map Tr.kind++[D.tup [.int a,.int u,.str ways,.int s]])),.own (.lst (z.map Tr.place++[D.tup [.int x,.int y]])),.bor (.int (M*room)),.bor (.int (0+(i:Int))),.bor (D.tup [.int a,.int u,.str ways,.int s]),.bor (D.tup [.int x,.int y]),.bor (.lst ((AL a u (x,y)).map Ah)),.bor (.int room),B]/\Holds tk' (81+81*i+j) (inT (T++(AL a u (x,y)).take j))/\f=st5) 0 {J,_,rfl,by simpa using hT,rfl} (λj d Z f A hI P2 pn2=>?_) λZ f hI=>?_
        ·obtain⟨tk',B,er,hT',es⟩:=hI
         rw[AT] at A;cases q:(AL a u (x,y))[j]? with
         | none=>rw[q] at A;cases A
         | some c=>
           rw[q] at A;cases A;subst er es;have hj:j<(AL a u (x,y)).length:=(AZ.mp q).1;obtain⟨ks,vs,rfl,k1,k2,k3,k4⟩:=id hT';refine{_,rfl,?_};simp! [DZ,k1,dV];refine{ks,vs,rfl,eT 'o',pn2 _ _ {_,_,rfl,?_,rfl}};refine(hT'.put (k:=ck c) (v:=.bl true) aI).imp 'o' λk=>?_
           rw[Ay,Cy,q];simp only[inT,BP,Option.toList,Bz];constructor
           ·rintro (⟨c',G,h2⟩ | h)
            ·exact{c',by rcases G with G | G<;>simp[G],h2}
            ·exact{c,'d',h}
           ·rintro ⟨c',G,h2⟩
            rcases G with G | G | G
            ·exact .inl {c',.inl G,h2}
            ·exact .inl {c',.inr G,h2}
            ·subst G;exact .inr h2
        ·obtain⟨tk',B,er,hT',es⟩:=hI
         subst er es;rw[Ay,Ag,C6] at hT';have hnew:FR r o g ⟨a,u,ways,s,x,y⟩:={g1,g3,a4,by show x+a<=r;omega,a5,by show y+u<=o;omega,g5,g6,λc hc' hcs=>hfree c hc' ((R c).mpr (.inl hcs))};refine pn _ _ {z++[⟨a,u,ways,s,x,y⟩],T++AL a u (x,y),tk',M*room,.bor (.int (0+(i:Int))),.bor (D.tup [.int a,.int u,.str ways,.int s]),.bor (D.tup [.int x,.int y]),.bor (.lst ((AL a u (x,y)).map Ah)),.bor (.int room),B,?_,{w1,w9,G,h9,ho.sub,by rw[A8];simp;omega,λt C=>?_,?_},hT'.imp 'o' λ_=>Iff.rfl,λc=>?_,hpos,hle,by rw[lU,N];exact hrm▸rfl,'o'}
         ·rw[BG,BG];rfl
         ·rcases BP.mp C with C | C
          ·exact ho.tr t C
          ·rw[Bz.mp C];exact hnew
         ·refine Ez.mpr {ho.apart,Hc _ _,λt C t' ht' c hc1 hc2=>?_}
          rw[Bz.mp ht'] at hc2;exact hfree c hc2 ((R c).mpr (.inr ⟨t,C,hc1⟩))
         ·rw[BP,R c]
          constructor
          ·rintro ((h | ⟨t,C,h⟩) | h)
           ·exact .inl h
           ·exact .inr {t,by simp[C],h}
           ·exact .inr {⟨a,u,ways,s,x,y⟩,'d',h}
          ·rintro (h | ⟨t,C,h⟩)
           ·exact .inl (.inl h)
           ·rcases BP.mp C with C | C
            ·exact .inl (.inr ⟨t,C,h⟩)
            ·rw[Bz.mp C] at h;exact .inr h
       ·exact pn _ _ {z,T,J,M,_,_,_,_,_,_,rfl,ho,hT.imp 'o' λ_=>Iff.rfl,R,U,Y,N,'o'}
     ·exact pn _ _ {z,T,J,M,_,_,_,_,_,_,rfl,ho,hT.imp 'o' λ_=>Iff.rfl,R,U,Y,N,'o'}
    ·exact pn _ _ {z,T,J,M,_,_,_,_,_,_,rfl,ho,hT.imp 'o' λ_=>Iff.rfl,R,U,Y,N,'o'}
   ·obtain⟨z,T,J,M,y11,y12,y13,y14,y15,B,er,ho,hT,R,U,Y,N,hst⟩:=hI
    subst er;rw[br,Ay] at hst;simp! [FK,al ax,al bY,al bc,cP,aR];exact hq r o g z f ho (N▸Y) 'o'
instance dx(d:Int):Int:=if d=0 then 1 else if d=2 then -1 else 0
instance dy(d:Int):Int:=if d=1 then 1 else if d=3 then -1 else 0
instance Dir(d:Int):Prop:=0<=d/\d<4
def Dir.cases{d:Int}(h:Dir d):d=0\/d=1\/d=2\/d=3:=by obtain⟨b,a⟩:=h;omega
def GW:List D->Ap Unit D:=Bv 2 2 zs7.1
def lV{d:Int}(f:Dir d)(g:Q (Ah (p.1+dx d,p.2+dy d)) ()):Aa (GW [Ah p,.int d]) Q E:=by
 refine aE rfl 'z' ?_;unfold zs7;dsimp only;have d:∀a b c e:Int,DY [.int a,.int b,.int c,.int e]=some (.lst [.int a,.int b,.int c,.int e]):=λa b c e=>bi (by simp[D.immL,D.imm]) 'd'
 rcases f.cases with r | r | r | r<;>subst r<;>simp?! [ao,Ah,Ba,pt0,pt1,d,at0,at1,at2,at3,BO,AR,aR]<;>exact g
def IV:List D->Ap Unit D:=Bv 2 2 zx7.1
def Bl(ways:Str)(d:Int):Bool:=ways == "any"||ways == (if d % 2=0 then "row" else "column")
def tM{w h s d:Int}{a:Str}(g:Dir d)(c:Q (.bl (Bl a d)) ()):Aa (IV [kd w h a s,.int d]) Q E:=by
 refine aE rfl 'z' ?_;unfold zx7;dsimp only;have b:(0:Int)<2:=by decide
 have e:∀{d:Int},iOp (λ_ j=>0<j) (λi j=>D.int (i % j)) (.int d) (.int 2)=some (.int (d % 2)):=λ{d}=>gv (C:=λ_ j=>0<j) b
 simp?! [ao,kd,Ba,at2,dH,eR,e];by_cases f:a == ("any" : Str)
 ·simp?! [f,ao]
  have:Bl a d=true:=by simp[Bl,f]
  rw[this] at c;exact c
 ·have b:(a == ("any" : Str))=false:=by simpa using f
  simp?! [b,ao];have e:Bl a d=(a == (if d % 2=0 then "row" else "column")):=by simp[Bl,b]
  rw[e] at c;rcases g.cases with r | r | r | r<;>subst r<;>exact{.inl aI,c}
instance Tr.ahead(t:Tr)(d:Int):List Al:=AL t.w t.h (t.x+dx d,t.y+dy d)
instance Tr.to(t:Tr)(d:Int):Tr:={ t with x:=t.x+dx d,y:=t.y+dy d }
def EJ(A5 A4:Int)(sh:List Al)(t:Tr)(d:Int):Prop:=Bl t.ways d=true/\∀c∈t.ahead d,c∉sh/\0<=c.1/\c.1<A5/\0<=c.2/\c.2<A4
def Cn(t u:Tr)(d:Int):Prop:=∃c∈u.cells,c∈t.ahead d
inductive D5(ts:List Tr)(d:Int)(n:Nat):Nat->Prop where
 | self:D5 ts d n n
 | more {m k:Nat} {t u:Tr}:D5 ts d n m->ts[m]?=some t->ts[k]?=some u->Cn t u d->D5 ts d n k
theorem hD(c:Al):∀l:List Al,BR (Ah c) (l.map Ah)=some (decide (c∈l))
 | []=>by simp[BR]
 | a::l=>by
   show ((D.eqq (Ah a) (Ah c)).bind λb=>(BR (Ah c) (l.map Ah)).map λx=>b||x)=_;rw[hD c l];have e:D.eqq (Ah a) (Ah c)=some (decide (a=c)):=by
    show (D.eqq (.int a.1) (.int c.1)).bind (λx=>(D.eqL [.int a.2] [.int c.2]).map λy=>x&&y)=_;rw[eV];show (D.eqL [.int a.2] [.int c.2]).map (λy=>(a.1 == c.1)&&y)=_;show ((D.eqq (.int a.2) (.int c.2)).bind (λx=>(D.eqL [] []).map λy=>x&&y)).map (λy=>(a.1 == c.1)&&y)=_;rw[eV];show some ((a.1 == c.1)&&((a.2 == c.2)&&true))=_;rw[Option.some.injEq,Bool.eq_iff_iff];simp[Prod.ext_iff]
   rw[e];simp only[Option.bind_some,BJ,Option.some.injEq];by_cases h:a=c
   ·subst h;simp
   ·have b:c≠a:=λz=>h z.symm
    simp[h,b,AK]
theorem lW(k:Nat):∀l:List Nat,BR (.int k) (l.map λj:Nat=>D.int j)=some (decide (k∈l))
 | []=>by simp[BR]
 | a::l=>by
   show ((D.eqq (.int a) (.int k)).bind λb=>(BR (.int k) (l.map λj:Nat=>D.int j)).map λx=>b||x)=_;rw[lW k l];simp only[eV,Option.bind_some,BJ,Option.some.injEq];by_cases h:a=k
   ·subst h;simp
   ·have c:k≠a:=λz=>h z.symm
    have b:((a:Int) == (k:Int))=false:=by rw[beq_eq_false_iff_ne];omega
    rw[b];simp[c,AK]
def hE{neg:Bool}{c:Al}{l:List Al}:oIn neg (Ah c) (.tup (l.map Ah))=some (.bl (if neg then !decide (c∈l) else decide (c∈l)))/\oIn neg (Ah c) (.lst (l.map Ah))=some (.bl (if neg then !decide (c∈l) else decide (c∈l))):=by
 have a:D.depL (l.map Ah)<=30:=Az (cq lQ l) 'z';constructor
 ·show (if D.depL (l.map Ah)<=30 then (BR (Ah c) (l.map Ah)).map λx=>D.bl (if neg then !x else x) else none)=_
  rw[if_pos a,hD];rfl
 ·show (if D.depL (l.map Ah)<=30 then (BR (Ah c) (l.map Ah)).map λx=>D.bl (if neg then !x else x) else none)=_
  rw[if_pos a,hD];rfl
def hF{neg:Bool}{k:Nat}{l:List Nat}:oIn neg (.int k) (.lst (l.map λj:Nat=>D.int j))=some (.bl (if neg then !decide (k∈l) else decide (k∈l))):=by
 have b:D.depL (l.map λj:Nat=>D.int j)<=30:=Az (cq (n:=0) (λa=>by simp[D.dep]) l) 'z';show (if D.depL (l.map λj:Nat=>D.int j)<=30 then (BR (.int k) (l.map λj:Nat=>D.int j)).map λx=>D.bl (if neg then !x else x) else none)=_;rw[if_pos b,lW];rfl
def cx{a:List Tr}{m:Nat}{t:Tr}(h:a[m]?=some t):Ba (.tup (a.map Tr.kind)) (.int m)=some t.kind:=(eU (bY t) 'o' (by rw[Dz,AT,h];rfl)).2
def dW{a:List Tr}{m:Nat}{t:Tr}(h:a[m]?=some t):Ba (.tup (a.map Tr.place)) (.int m)=some t.place:=(eU (bc t) 'o' (by rw[Dz,AT,h];rfl)).2
def AA(g:List Nat):List D:=g.map λj:Nat=>D.int j
def bG(g:List Nat):D.immL (AA g)=true:=al (λa=>ah) g
structure Cfg(A5 A4:Int)(sh:List Al)(ts:List Tr):Prop where
 few:ts.length<=12
 sh:sh.length<=81
 wh:∀t∈ts,0<=t.w/\t.w<=9/\0<=t.h/\t.h<=9
def lX{S:Type}{E:AG->S->Prop}{b:S}{Q:D->S->Prop}{l T:List Al}{x:Sl}{d:D}(g:d=.tup (T.map Ah)\/d=.lst (T.map Ah))(a:l.length<=1000)(f:Q (.bl (decide (∃c∈l,c∈T))) b) :
 Aa (Ds S (gN 0) (Hn S) (fP S (o2 (oIn false) (vr 0) (vr 1))) (l.map Ah) [] [x,.bor d] b) (λr a=>Aa (Aw (Fi (λe=>e.any id) [D.lst r]) a) Q E) E:=by
 refine bW (IT T) (λZ=>∃x,Z=[x,.bor d]) {_,rfl} (λe h Z hI138=>?_) (aU (by rw[Ag];omega)) ?_
 ·obtain⟨e,a⟩:=hI138
  subst a;obtain⟨c,e,rfl⟩:=B7.mp h;refine{_,rfl,{_,rfl},⟨rfl,rfl⟩,?_};have a:oIn false (Ah c) d=some (.bl (decide (c∈T))):=by
   rcases g with r | r
   ·rw[r];exact hE.1
   ·rw[r];exact hE.2
  simp! [a];rfl
 ·rw[lT]
  simp! [Fi,dE,BJ];have a:(l.map λc=>decide (c∈T)).any id=decide (∃c∈l,c∈T):=by
   rw[Bool.eq_iff_iff,List.any_map,List.any_eq_true,decide_eq_true_eq];simp
  rw[a];exact f
def IW:List D->Ap Unit D:=Bv 14 4 (zx3 FQ GW IV).1
def lY{g:List Nat}{j m:Nat}(h:g[j]?=some m):Ba (.lst (AA g)) (.int j)=some (.int m):=(eU ah 'o' (by rw[Dz];unfold AA;rw[AT,h];rfl)).1
def lZ(g:List Nat):Eo (AA g)=some (g.map λj:Nat=>(j:Int)):=ke (f:=λj:Nat=>(j:Int)) g
open H in
def l0(g:List Nat):∃a:List Nat,(sortI (g.map λj:Nat=>(j:Int))).map D.int=AA a/\a.Perm g/\a.Pairwise (·<=·):=by
 have b:=PySem.W.sortI_perm (g.map λj:Nat=>(j:Int));have d:=PySem.W.sortI_rises (g.map λj:Nat=>(j:Int));have c:∀i∈sortI (g.map λj:Nat=>(j:Int)),((i.toNat:Nat):Int)=i:=λi a=>by
  obtain⟨j,_,e⟩:=B7.mp (b.mem_iff.mp a);omega
 refine{(sortI (g.map λj:Nat=>(j:Int))).map Int.toNat,?_,?_,?_}
 ·unfold AA
  rw[Cz];refine List.map_congr_left λi a=>?_
  show D.int i=D.int ((i.toNat:Nat):Int);rw[c i a]
 ·have:=b.map Int.toNat
  rw[Cz] at this;refine this.trans (List.Perm.of_eq ?_);rw[show (Int.toNat ∘ λj:Nat=>(j:Int))=id from funext λj=>Dz j,List.map_id]
 ·rw[List.pairwise_map]
  exact d.imp λh=>Int.toNat_le_toNat h
def GX(A5 A4:Int)(sh:List Al)(ts:List Tr)(d:Int)(n:Nat)(t:Tr):Prop:=
 t.s<0\/(∃m t',D5 ts d n m/\ts[m]?=some t'/\¬EJ A5 A4 sh t' d)\/(t.s=0/\∃m,m≠n/\D5 ts d n m)
structure Bm(A5 A4:Int)(sh:List Al)(ts:List Tr)(d:Int)(n:Nat)(g:List Nat):Prop where
 nd:g.Nodup
 up:g.Pairwise (·<=·)
 all:∀m,m∈g↔D5 ts d n m
 lt:∀m∈g,m<ts.length
 ok:∀m∈g,∀t,ts[m]?=some t->EJ A5 A4 sh t d
 str:∀t,ts[n]?=some t->¬t.s<0/\(t.s=0->∀m∈g,m=n)
instance muS(Z:Ae):Nat:=match (Z[9]?:Option Sl) with
 | some (Sl.bor (D.int a))=>20-a.toNat
 | _=>0
theorem bZ:∀(N:Nat) (g:List Nat),g.Nodup->(∀m∈g,m<N)->g.length<=N
 | 0,g,_,h=>by
   cases g with
   | nil=>exact Am _
   | cons a g=>exact absurd (h a 'd') (E9 _)
 | N+1,g,b,h=>by
   by_cases c:N∈g
   ·have d:=bZ N (g.erase N) (b.erase N) λm a=>by
     have:=h m (List.mem_of_mem_erase a);have e:m≠N:=λz=>by subst z;exact(List.Nodup.not_mem_erase b) a
     omega
    rw[List.length_erase_of_mem c] at d;omega
   ·have d:=bZ N g b λm a=>by
     have:=h m a;have e:m≠N:=λz=>by subst z;exact c a
     omega
    omega
def CJ(A5 A4:Int)(c:Al):Bool:=(decide (0<=c.1)&&decide (c.1<A5))&&(decide (0<=c.2)&&decide (c.2<A4))
def IX(A5 A4:Int):D->D
 | .tup [.int x,.int y]=>.bl (CJ A5 A4 (x,y))
 | _=>.non
def tO(a b:Int)(l:List Al):(l.map Ah).map (IX a b)=l.map λc=>.bl (CJ a b c):=by rw[Cz];rfl
def tQ{S:Type}{E:AG->S->Prop}{d:S}{Q:D->S->Prop}{l:List Al}{x y:Sl}{b a:Int}(c:l.length<=1000)(g:Q (.bl (l.all (CJ b a))) d) :
 Aa (Ds S (gT 2 (Dk (gN 0) (Dk (gN 1) gsNil))) (Hn S) (Ik S (GM S (AR λi j=>.bl (decide (i<=j))) (AR λi j=>.bl (decide (i<j))) (fP S (cn (.int 0))) (fP S (vr 0)) (fP S (vr 2))) (GM S (AR λi j=>.bl (decide (i<=j))) (AR λi j=>.bl (decide (i<j))) (fP S (cn (.int 0))) (fP S (vr 1)) (fP S (vr 3)))) (l.map Ah) [] [x,y,.bor (.int b),.bor (.int a)] d) (λr c=>Aa (Aw (Fi (λe=>e.all id) [D.lst r]) c) Q E) E:=by
 refine bW (IX b a) (λZ=>∃x y,Z=[x,y,.bor (.int b),.bor (.int a)]) {_,_,rfl} (λe i Z hI139=>?_) (aU (by rw[Ag];omega)) ?_
 ·obtain⟨c,h,f⟩:=hI139
  subst f;obtain⟨c,h,rfl⟩:=B7.mp i;refine{_,rfl,{_,_,rfl},⟨rfl,rfl⟩,?_};simp! [AR];have e:IX b a (Ah c)=.bl (CJ b a c):=rfl;rw[e];unfold CJ;by_cases f:0<=c.1<;>by_cases i:c.1<b<;>by_cases e:0<=c.2<;>by_cases h:c.2<a<;>simp[f,i,e,h,D.imm]
 ·rw[tO]
  simp! [Fi,dE,BJ];have e:(l.map λc=>CJ b a c).all id=l.all (CJ b a):=by rw[List.all_map];rfl
  rw[e];exact g
def wp_step{M C:Int}{N:List Al}{l:List Tr}{n:Nat}{d:Int}{t0:Tr}{Q:D->Unit->Prop}{E:AG->Unit->Prop}(hc:Cfg M C N l)(hn:l[n]?=some t0)(hd:Dir d)(hN:GX M C N l d n t0->Q .non ())(hL:∀g:List Nat,Bm M C N l d n g->Q (.lst (AA g)) ()):Aa (IW [Ar M C N l,Ai l,.int n,.int d]) Q E:=by
 refine aE rfl 'z' ?_;unfold zx3;dsimp only;rw  [ao];simp! [Ar,Ai];rw  [ao];simp! [cx hn];have ks:∀t:Tr,Ba t.kind (.int 3)=some (.int t.s):=λt=>rfl
 simp! [ks,AR];by_cases hs:t0.s<0
 ·rw[az hs]
  simp!;exact hN (.inl hs)
 ·rw[aw hs]
  simp!;simp_all!;simp! [bi];simp_all!;simp!;rw  [ao];refine cO (λZ st=>∃(g:List Nat) (f:Nat) (x10 x11 B I:Sl),Z=[Sl.bor (Ar M C N l),.bor (Ai l),.bor (.int n),.bor (.int d),.bor (.int M),.bor (.int C),.bor (.tup (N.map Ah)),.bor (.tup (l.map Tr.kind)),.own (.lst (AA g)),.bor (.int f),x10,x11,B,I]/\g.Nodup/\(∀m∈g,m<l.length/\D5 l d n m)/\n∈g/\f<=g.length/\(∀j m t,j<f->g[j]?=some m->l[m]?=some t->EJ M C N t d/\∀k u,l[k]?=some u->Cn t u d->k∈g)) (λZ _=>muS Z) {[n],0,_,_,_,_,rfl,'d',λm o=>?_,'d','d',λj m t hj=>absurd hj (E9 _)} ?_
  ·rw[Bz.mp o]
   exact{(AZ.mp hn).1,.self}
  ·intro Z st hI P Zv0 pn pr pz
   obtain⟨g,f,x10,x11,B,I,rfl,nd,hg,W,hat,C1⟩:=hI;have hgl:g.length<=l.length:=bZ _ g nd λm o=>(hg m o).1
   have few:=hc.few;have gl:(AA g).length=g.length:=by unfold AA;rw[Ag]
   simp! [Cv,AR,gl];by_cases hlt:f < g.length
   ·rw[az (show ((f:Nat):Int)<(g.length:Int) by omega),if_pos rfl]
    obtain⟨m,o⟩:∃m,g[f]?=some m:={_,AU hlt};have hmg:=BI o;obtain⟨hmN,hmR⟩:=hg m hmg;obtain⟨t,O⟩:∃t,l[m]?=some t:={_,AU hmN};obtain⟨q1,q2,q3,q4⟩:=hc.wh t (BI O);simp_all!;simp! [lY o];simp_all!;simp! [Ai,cx O,dW O];refine lV (p:=(t.x,t.y)) hd ?_;refine dR 'o' 'o' q1 q3 ?_;have ha:AL t.w t.h ((t.x,t.y).1+dx d,(t.x,t.y).2+dy d)=t.ahead d:=rfl;rw[ha];have ha81:(t.ahead d).length<=81:=bF q2 q4;simp! [al ax];simp_all!;simp! [cx O];refine tM hd ?_;by_cases hgo:Bl t.ways d=true
    ·rw[hgo]
     simp!;refine lX (.inl rfl) 'o' ?_;simp!;by_cases hsh:∃c∈t.ahead d,c∈N
     ·rw[az hsh,if_pos rfl]
      refine hR_ _ _ ?_;refine pr _ _ (hN (.inr (.inl {m,t,hmR,O,λok=>?_})));obtain⟨c,h1,G⟩:=hsh;exact(ok.2 c h1).1 G
     ·rw[aw hsh]
      simp!;simp_all!;simp!;refine tQ 'o' ?_;simp!;by_cases hin:(t.ahead d).all (CJ M C)=true
      ·rw[hin]
       simp!;have hok:EJ M C N t d:={hgo,λc hc'=>{λh=>hsh ⟨c,hc',h⟩,by
        have:=List.all_eq_true.mp hin c hc';simp[CJ] at this;omega}}
       simp_all!;simp! [Cv,Ag];rw[bE 'o' 'o'];refine aL (λk Z st'=>∃(q:List Nat) (B I:Sl),Z=[Sl.bor (Ar M C N l),.bor (Ai l),.bor (.int n),.bor (.int d),.bor (.int M),.bor (.int C),.bor (.tup (N.map Ah)),.bor (.tup (l.map Tr.kind)),.own (.lst (AA q)),.bor (.int f),.bor (.int m),.own (.lst ((t.ahead d).map Ah)),B,I]/\g <+: q/\q.Nodup/\(∀m∈q,m<l.length/\D5 l d n m)/\(∀k' u,k' < k->l[k']?=some u->Cn t u d->k'∈q)) 0 {g,_,_,rfl,List.prefix_refl _,nd,hg,λk' u h=>absurd h (E9 _)} (λk e Z st' hd' hI P2 pn2=>?_) λZ st' hI=>?_
       ·obtain⟨q,B,I,er,i,T,R,J⟩:=hI
        obtain⟨rfl,hkN⟩:=bt hd';rw[Dz] at hkN;subst er;rw[Ay] at J;obtain⟨u,hu⟩:∃u,l[k]?=some u:={_,AU hkN};obtain⟨p1,p2,p3,p4⟩:=hc.wh u (BI hu);have hgl':q.length<=l.length:=bZ _ q T λm o=>(R m o).1
        have k0:(0:Int)+(k:Int)=(k:Int):=by omega
        refine{_,rfl,?_};simp_all!;simp! [Ai,k0,cx hu,dW hu];refine dR (p:=(u.x,u.y)) 'o' 'o' p1 p3 ?_;have hu81:u.cells.length<=81:=bF p2 p4;have hcu:AL u.w u.h (u.x,u.y)=u.cells:=rfl;rw[hcu];have on:∀g:List Nat,AA g=g.map λj:Nat=>D.int j:=λ_=>rfl
        simp! [al ax,on,hF];by_cases hkg:k∈q
        ·rw[az hkg]
         simp!;refine pn2 _ _ {q,_,_,rfl,i,T,R,λA u' h1 G h3=>?_};by_cases h4:A=k
         ·subst h4;exact hkg
         ·exact J A u' 'o' G h3
        ·rw[aw hkg]
         simp!;refine lX (.inr rfl) 'o' ?_;simp!;by_cases hh:∃c∈u.cells,c∈t.ahead d
         ·rw[az hh,if_pos rfl]
          have im':D.immL (q.map λj:Nat=>D.int j)=true:=bG q;simp! [Bj,im'];refine{_,bz ah (by rw[Ag];omega),pn2 _ _ {q++[k],.bor (.int k),.own (.lst (u.cells.map Ah)),?_,i.trans (List.prefix_append _ _),?_,?_,?_}}
          ·unfold AA
           rw[BG];rfl
          ·rw[Fw]
           refine{T,'d',λa ha b hb e=>?_};rw[Bz.mp hb] at e;subst e;exact hkg ha
          ·intro m' Y
           rcases BP.mp Y with h | h
           ·exact R m' h
           ·rw[Bz.mp h]
            exact{hkN,.more hmR O hu hh}
          ·intro A u' h1 G h3
           by_cases h4:A=k
           ·subst h4;simp
           ·exact E8 _ (J A u' 'o' G h3)
         ·rw[aw hh]
          simp!;refine pn2 _ _ {q,_,_,rfl,i,T,R,λA u' h1 G h3=>?_};by_cases h4:A=k
          ·subst h4
           rw[hu] at G;cases G;exact absurd h3 hh
          ·exact J A u' 'o' G h3
       ·obtain⟨q,B,I,er,i,T,R,J⟩:=hI
        subst er;simp! [BO,AR];rw[Ay,br,Dz] at J;refine pn _ _ {q,f + 1,_,_,_,_,rfl,T,R,i.mem W,?_,λj m' t' hj Y ht'=>?_} ?_
        ·have:=i.length_le;omega
        ·by_cases h5:j=f
         ·subst h5
          have e1:q[j]?=some m:=by
           obtain⟨r,rfl⟩:=i;rw[EU hlt];exact o
          rw[e1] at Y;cases Y;rw[O] at ht';cases ht';exact{hok,λk u h1 G=>J k u (AZ.mp h1).1 h1 G}
         ·have hj':j<f:=by omega
          have e1:g[j]?=some m':=by
           obtain⟨r,rfl⟩:=i;rwa [EU 'o'] at Y
          obtain⟨z1,z2⟩:=C1 j m' t' hj' e1 ht';exact{z1,λk u h1 G=>i.mem (z2 k u h1 G)}
        ·show 20-((f:Int)+1).toNat<20-((f:Nat):Int).toNat
         omega
      ·have hin':(t.ahead d).all (CJ M C)=false:=by simpa using hin
       rw[hin'];simp!;refine pr _ _ (hN (.inr (.inl {m,t,hmR,O,λok=>hin (List.all_eq_true.mpr λc hc'=>?_)})));have:=(ok.2 c hc').2;simp[CJ];omega
    ·have hgo':Bl t.ways d=false:=by simpa using hgo
     rw[hgo'];simp!;exact pr _ _ (hN (.inr (.inl {m,t,hmR,O,λok=>hgo ok.1})))
   ·rw[aw (show ¬((f:Nat):Int)<(g.length:Int) by omega)]
    simp!;refine pz _ ?_;simp!;have U:∀m,m∈g↔D5 l d n m:=λm=>{λh=>(hg m h).2,λh=>by
     induction h with
     | self=>exact W
     | more h1 G h3 h4 ih=>
       obtain⟨j,hj⟩:=D7 ih;have hjl:j<g.length:=(AZ.mp hj).1;exact(C1 j _ _ 'o' hj G).2 _ _ h3 h4}
    have hokg:∀m∈g,∀t,l[m]?=some t->EJ M C N t d:=λm o t O=>by
     obtain⟨j,hj⟩:=D7 o;have hjl:j<g.length:=(AZ.mp hj).1;exact(C1 j m t 'o' hj O).1
    have fin:(t0.s=0->∀m∈g,m=n)->Aa (Hk Unit (fP Unit (o1 GQ (cs (vr 8) nl))) [Sl.bor (Ar M C N l),.bor (Ai l),.bor (.int n),.bor (.int d),.bor (.int M),.bor (.int C),.bor (.tup (N.map Ah)),.bor (.tup (l.map Tr.kind)),.own (.lst (AA g)),.bor (.int f),x10,x11,B,I] st) (λfl st=>match fl with
     | .rt d=>Q d st
     | .nx _=>Q .non st
     | _=>False) E:=λhz=>by
     obtain⟨q,e1,e2,e3⟩:=l0 g;have os:GQ [.lst (AA g)]=some (.lst (AA q)):=by
      show (Eo (AA g)).bind (λns=>if ns.length<64 then some (D.lst ((sortI ns).map D.int)) else none)=_;rw[lZ];show (if (g.map λj:Nat=>(j:Int)).length<64 then some (D.lst ((sortI (g.map λj:Nat=>(j:Int))).map D.int)) else none)=_;rw[if_pos (by rw[Ag];omega),e1]
     simp! [os,bG];exact hL q {e2.symm.nodup nd,e3,λm=>by rw[e2.mem_iff];exact U m,λm o=>(hg m (e2.mem_iff.mp o)).1,λm o=>hokg m (e2.mem_iff.mp o),λt O=>by
      rw[hn] at O;cases O;exact{hs,λz m o=>hz z m (e2.mem_iff.mp o)}}
    rw  [ao];simp! [Cv,gl,AR,cx hn,ks,cr];by_cases v:1<g.length
    ·rw[az (show (1:Int)<(g.length:Int) by omega)]
     simp!;by_cases hz:t0.s=0
     ·have hz':(t0.s == 0)=true:=by simpa using hz
      rw[hz',if_pos rfl];refine hN (.inr (.inr {hz,?_}));cases g with
      | nil=>simp at v
      | cons a g=>
        cases g with
        | nil=>simp at v
        | cons b g=>
          by_cases ha:a=n
          ·refine{b,λe=>?_,(U b).mp 'd'}
           rw[ha,e] at nd;simp at nd
          ·exact{a,ha,(U a).mp 'd'}
     ·have hz':(t0.s == 0)=false:=by simpa using hz
      rw[hz'];simp!;have:=fin λz=>absurd z hz
      revert this;simp!;exact id
    ·rw[aw (show ¬(1:Int)<(g.length:Int) by omega)]
     simp!;have:=fin λ_ m o=>by
      match g,v,W,o with
      | [a],_,W,o=>rw[Bz.mp o,Bz.mp W]
      | a::b::g,v,_,_=>simp at v
     revert this;simp!;exact id
def A7(ts:List Tr)(g:List Nat)(d:Int):List Tr:=ts.mapIdx λi t=>if i∈g then t.to d else t
def bA{g:List Nat}{d:Int}{i:Nat}:(A7 a g d)[i]?=(a[i]?).map λt=>if i∈g then t.to d else t:=by
 unfold A7;rw[List.getElem?_mapIdx]
def bM{g:List Nat}{d:Int}:(A7 a g d).length=a.length:=by unfold A7;simp
def l3{d:Int}:A7 a [] d=a:=by
 apply GC;intro i;rw[bA];cases a[i]?<;>simp
def tR{g:List Nat}{d:Int}:(A7 a g d).map Tr.kind=a.map Tr.kind:=by
 apply GC;intro i;rw[AT,AT,bA];cases a[i]? with
 | none=>rfl
 | some t=>by_cases h:i∈g<;>simp[h]<;>rfl
def bB{a b:Int}(h:ts'.map Tr.kind=d.map Tr.kind):Ar a b c ts'=Ar a b c d:=by unfold Ar;rw[h]
def tT{g:List Nat}{d:Int}(h:t∈A7 c g d):∃u∈c,t.w=u.w/\t.h=u.h/\t.ways=u.ways/\t.s=u.s:=by
 obtain⟨i,a⟩:=D7 h;rw[bA] at a;cases q:c[i]? with
 | none=>rw[q] at a;cases a
 | some u=>
   rw[q] at a;have a:(if i∈g then u.to d else u)=t:=Option.some.inj a;refine{u,BI q,?_};by_cases b:i∈g
   ·rw[if_pos b] at a;subst a;exact⟨rfl,rfl,rfl,rfl⟩
   ·rw[if_neg b] at a;subst a;exact⟨rfl,rfl,rfl,rfl⟩
def Cfg.moved{A5 A4:Int}{sh:List Al}{ts:List Tr}{g:List Nat}{d:Int}(h:Cfg A5 A4 sh ts):Cfg A5 A4 sh (A7 ts g d) where
 few:=by rw[bM];exact h.few
 sh:=h.sh
 wh:=λt ht=>by
  obtain⟨u,hu,e1,e2,_⟩:=tT ht;rw[e1,e2];exact h.wh u hu
def l4{g:List Nat}{d:Int}{k:Nat}(c:a[k]?=some t):((A7 a g d).map Tr.place).set k (t.to d).place=(A7 a (g++[k]) d).map Tr.place:=by
 apply GC;intro i;rw[List.getElem?_set,AT,AT,bA,bA,Ag,bM];have b:k<a.length:=(AZ.mp c).1;by_cases h:k=i
 ·subst h
  rw[if_pos rfl,if_pos b,c];simp
 ·rw[if_neg h]
  cases a[i]? with
  | none=>rfl
  | some u=>
    have b:i≠k:=λz=>h z.symm
    simp[b]
inductive Bo(A5 A4:Int)(sh:List Al)(d:Int)(n:Nat)(ts:List Tr):Nat->List Tr->Prop where
 | zero:Bo A5 A4 sh d n ts 0 ts
 | succ {k:Nat} {ts':List Tr} {g:List Nat}:Bo A5 A4 sh d n ts k ts'->Bm A5 A4 sh ts' d n g->Bo A5 A4 sh d n ts (k+1) (A7 ts' g d)
theorem Bo.len{c b:Int}{d:Int}{n:Nat}{k:Nat}(h:Bo c b e d n a k ts'):ts'.length=a.length:=by
 induction h with
 | zero=>rfl
 | succ _ _ ih=>rw[bM];exact ih
theorem Bo.kind{c b:Int}{d:Int}{n:Nat}{k:Nat}(h:Bo c b e d n a k ts'):ts'.map Tr.kind=a.map Tr.kind:=by
 induction h with
 | zero=>rfl
 | succ _ _ ih=>rw[tR];exact ih
theorem Bo.cfg{b a:Int}{d:Int}{n:Nat}{k:Nat}(h:Bo b a c d n f k ts')(e:Cfg b a c f):Cfg b a c ts':=by
 induction h with
 | zero=>exact e
 | succ _ _ ih=>exact ih.moved
def Gp:List D->Ap Unit D:=Bv 10 3 (zs5 IW GW).1
def E7(n:Nat)(d many:Int):D:=.tup [.int n,.int d,.int many]
open H in
def tU{m l:Int}{n:Nat}{d b:Int}(B:Cfg m l o h)(j:n<h.length)(G:Dir d)(c:0<=b)(a:b<=1000)(C:∀(k:Nat) a t,(k:Int)<b->Bo m l o d n h k a->a[n]?=some t->GX m l o a d n t->Q (.int k) ())(I:∀a,Bo m l o d n h b.toNat a->Q (Ai a) ()):Aa (Gp [Ar m l o h,Ai h,E7 n d b]) Q E:=by
 refine aE rfl 'z' ?_;unfold zs5;dsimp only;rw  [ao];simp! [E7];rw  [ao];simp!;rw[bE 'o' c];refine lP (λi Z f=>∃(a:List Tr) (y A z s:Sl),Z=[Sl.bor (Ar m l o h),.bor (Ai a),.bor (E7 n d b),.bor (.int n),.bor (.int d),.bor (.int b),y,A,z,s]/\Bo m l o d n h i a) 0 {h,_,_,_,_,rfl,.zero} (λi e Z f r x P E u=>?_) λZ f x=>?_
 ·obtain⟨a,y,A,z,s,v,c⟩:=x
  obtain⟨rfl,g⟩:=bt r;subst v;rw[Ay] at c;have g:=c.cfg B;obtain⟨t,q⟩:∃t,a[n]?=some t:={_,AU (by rw[c.len];exact j)};have B:(0:Int)+(i:Int)=(i:Int):=by omega
  refine{_,rfl,?_};simp_all!;simp! [B];rw[<-bB c.kind];refine wp_step g q G (λj=>?_) λg B=>?_
  ·simp!
   simp_all!;simp! [CG,D.isNon];exact u _ _ (C i a t 'o' c q j)
  ·have u:(D.lst (AA g)).flat=true:=bG g
   simp! [bG];simp_all!;simp! [CG,D.isNon];simp_all!;simp! [Ai,Ht,al bc];simp_all!;simp!;refine aL (λj Z f=>∃(s:Sl),Z=[Sl.bor (Ar m l o a),.bor (Ai a),.bor (E7 n d b),.bor (.int n),.bor (.int d),.bor (.int b),.bor (.int i),.bor (.lst (AA g)),.own (.lst ((A7 a (g.take j) d).map Tr.place)),s]) 0 {_,by rw[List.take_zero,l3];rfl} (λj e Z f r x P2 C=>?_) λZ f x=>?_
   ·obtain⟨s,v⟩:=x
    unfold AA at r;rw[AT] at r;cases q:g[j]? with
    | none=>rw[q] at r;cases r
    | some k=>
      rw[q] at r;cases r;subst v;rw[Ay];have f:=BI q;have e:=B.lt k f;obtain⟨u,r⟩:∃u,a[k]?=some u:={_,AU e};have f:k∉g.take j:=λJ=>by
       obtain⟨i,e⟩:=D7 J;rw[List.getElem?_take] at e;split at e
       ·rename_i J
        have M:j<g.length:=(AZ.mp q).1;have:=(List.getElem?_inj (by omega:i < g.length) B.nd).mp (e.trans q.symm);omega
       ·cases e
      have i:Ba (.lst ((A7 a (g.take j) d).map Tr.place)) (.int k)=some u.place:=(eU (bc u) 'o' (by rw[Dz,AT,bA,r];simp[f])).1;refine{_,rfl,?_};simp! [i];refine lV (p:=(u.x,u.y)) G ?_;simp! [Bj,al bc];refine{k,k,rfl,?_,ax _,C _ _ {.bor (.int k),?_}}
      ·unfold CC
       rw[if_pos 'o',if_pos (by rw[Ag,bM];omega)];simp
      ·have e:Ah ((u.x,u.y).1+dx d,(u.x,u.y).2+dy d)=(u.to d).place:=rfl
       rw[e,l4 r,Ay,Cy,q];rfl
   ·obtain⟨s,v⟩:=x
    subst v;have e:(AA g).length=g.length:=by unfold AA;rw[Ag]
    rw[Ay,e,C6];simp! [FK,al bc];rw[bB c.kind];exact E _ _ {A7 a g d,_,_,_,_,rfl,by rw[Ay];exact .succ c B}
 ·obtain⟨a,y,A,z,s,v,c⟩:=x
  subst v;rw[Ay,br] at c;have:own? [Sl.bor (Ar m l o h),.bor (Ai a),.bor (E7 n d b),.bor (.int n),.bor (.int d),.bor (.int b),y,A,z,s] 1=some (Ai a):=by
   show (if (Ai a).imm=true then some (Ai a) else none)=_;rw[if_pos (by unfold Ai;rw[am];exact al bc _)]
  simp only[wp_sRetV];exact{_,this,I a c}
def Et:Nat->List D->Ap Unit D
 | 0=>JJ
 | n+1=>Bv 2 2 (Gn (Et n)).1
def fg{n:Nat}{b:Bool}(f:d2.isNon=false)(g:BZ .dict d2=false)(e:BZ .list d1=b)(a:BZ .list d2=b)(d:BZ .tuple d1=!b)(c:BZ .tuple d2=!b)(i:Cv [d1]=some (.int l.length))(j:Cv [d2]=some (.int l.length))(z:JG [d1,d2]=some (Du l l))(ih:∀x∈l,∀{Q:D->Unit->Prop} {E:AG->Unit->Prop},Q (.bl true) ()->Aa (Et n [x,x]) Q E)(m:l.length<=sizeLine)(h:Q (.bl true) ()):Aa (Et (n+1) [d1,d2]) Q E:=by
 refine aE rfl 'z' ?_;unfold Gn;dsimp only;rw  [ao];simp! [CG,f];rw  [ao];simp! [g];cases b<;>(
  rw  [ao];simp! [e,a,d,c];rw  [ao];simp! [e,a,Bq,D.dep,D.eqq,AE,BJ,bO];rw  [ao];simp! [d,c,i,j,Bq,D.dep,D.eqq,AE,BJ,bO];simp! [z];refine bW (λ_=>.bl true) (λZ=>∃x y,Z=[x,y]) {_,_,rfl} (λd b Z hI140=>?_) (by unfold Du;rw[List.length_zipWith];omega) ?_
  ·obtain⟨x,y,e⟩:=hI140
   subst e;obtain⟨x,a,rfl⟩:=qL b;refine{_,rfl,{_,_,rfl},⟨rfl,rfl⟩,?_};simp?! [ao];exact ih x a (by first | exact rfl | exact⟨rfl,rfl⟩ | exact⟨rfl,rfl,rfl⟩)
  ·simp?! [Fi,qM,BJ,ao]
   rw[show ((Du l l).map λ_=>true).all id=true by simp];exact h)
theorem l5:∀(n:Nat) {d:D} {Q:D->Unit->Prop} {E:AG->Unit->Prop},d.dep<n->d.lw=true->Q (.bl true) ()->Aa (Et n [d,d]) Q E
 | 0,d,Q,E,h,_,_=>absurd h (E9 _)
 | n+1,d,Q,E,f,a,h=>by
   have c:∀{l:List D},D.lwL l=true->D.depL l<n->∀x∈l,∀{Q:D->Unit->Prop} {E:AG->Unit->Prop},Q (.bl true) ()->Aa (Et n [x,x]) Q E:=λ{l} b f x g=>l5 n (Cj (kg g) f) (eS.mp b x g)
   have e:∀{l:List D},(D.lwL l&&decide (l.length<=sizeLine))=true->D.lwL l=true/\l.length<=sizeLine:=λa=>by simpa using a
   cases d with
   | bl b=>simp[D.lw] at a
   | dct k v=>simp[D.lw] at a
   | fd _ _=>simp[D.lw] at a
   | tup l=>exact fg rfl rfl rfl rfl rfl rfl rfl rfl rfl (c (e a).1 (Gw f)) (e a).2 h
   | lst l=>exact fg rfl rfl rfl rfl rfl rfl rfl rfl rfl (c (e a).1 (Gw f)) (e a).2 h
   | fl l=>exact fg rfl rfl rfl rfl rfl rfl rfl rfl rfl (c (e a).1 (Gw f)) (e a).2 h
   | non=>
     refine aE rfl 'z' ?_;unfold Gn;dsimp only;rw  [ao];simp! [CG,D.isNon];exact h
   | int i=>
     refine aE rfl 'z' ?_;unfold Gn;dsimp only;rw  [ao];simp! [CG,D.isNon,BZ];rw  [ao];simp! [CG,D.isNon,BZ];rw  [ao];simp! [CG,D.isNon,BZ];rw  [ao];simp! [CG,D.isNon,BZ];simp! [BZ,Bq,D.dep,D.eqq,bO,BJ,AE];exact h
   | str i=>
     refine aE rfl 'z' ?_;unfold Gn;dsimp only;rw  [ao];simp! [CG,D.isNon,BZ];rw  [ao];simp! [CG,D.isNon,BZ];rw  [ao];simp! [CG,D.isNon,BZ];rw  [ao];simp! [BZ,Bq,D.dep,D.eqq,bO,BJ,AE];exact h
def GY:List D->Ap Unit D:=Bv 6 2 yj4.1
def l6{w h:Int}{a:Str}{s:Int}(c:w<=30)(b:h<=30)(c:0<=w)(g:0<=h)(l:Q (.lst ((AL w h p).map Ah)) ()):Aa (GY [kd w h a s,Ah p]) Q E:=by
 refine aE rfl 'z' ?_;unfold yj4;dsimp only;simp_all!;simp! [Ah];simp_all!;simp! [aV];simp_all!;simp! [kd,Ba,at0,at1];rw[bE 'o' c];refine aL (λi Z b=>∃x,Z=[.bor (kd w h a s),.bor (Ah p),.bor (.int p.1),.bor (.int p.2),.own (.lst (((List.range i).flatMap (Dd h p)).map Ah)),x]) 0 {_,rfl} (λi d Z b c f P m=>?_) λZ b f=>?_
 ·obtain⟨x,e⟩:=f
  obtain⟨rfl,b⟩:=bt c;subst e;have a:∀i:Nat,D.immL (((List.range i).flatMap (Dd h p)).map Ah)=true:=λi=>al ax _
  refine{_,rfl,?_};simp! [Bj,a,kd,Ba,at0,at1];rw[bE 'o' g];refine bW (λd=>match d with | .int j=>Ah (p.1+(i:Int),p.2+j) | _=>.non) (λZ=>∃x,Z=[x,.bor (.int p.1),.bor (.int (0+(i:Int))),.bor (.int p.2)]) {_,rfl} (λd c Z hI141=>?_) (aU (by rw[br];omega)) ?_
  ·obtain⟨x,e⟩:=hI141
   subst e;obtain⟨j,b⟩:=D7 c;obtain⟨rfl,g⟩:=bt b;refine{_,rfl,{_,rfl},⟨rfl,rfl⟩,?_};simp! [Ah,BO,AR,aR];simp
  ·have e:(Db 0 h.toNat).map (λd=>match d with | .int j=>Ah (p.1+(i:Int),p.2+j) | _=>D.non)=(Dd h p i).map Ah:=by
    unfold Db Dd;rw[Cz,Cz];refine List.map_congr_left λj _=>?_
    simp[Ah]
   rw[e];refine{_,dQ (al ax _) ?_,m _ _ {.bor (.int (0+(i:Int))),?_}}
   ·rw[Ag,Ag,List.length_flatMap]
    unfold Dd;simp only[Ag,Dy,List.map_const',List.sum_replicate_nat];have:i*h.toNat<=29*30:=hC 'o' 'o';omega
   ·rw[FX,Ft,BG]
    simp[Ah,kd]
 ·obtain⟨x,e⟩:=f
  subst e;rw[br,Ay];have a:∀i:Nat,D.immL (((List.range i).flatMap (Dd h p)).map Ah)=true:=λi=>al ax _
  simp! [a];exact l
def hH{α:Type}{P:List α->Prop}(nil:P [])(append_singleton:∀l a,P l->P (l++[a]))(l:List α):P l:=by
 have h:∀l:List α,P l.reverse:=λl=>by
  induction l with
  | nil=>exact nil
  | cons a l ih=>rw[List.reverse_cons];exact append_singleton _ _ ih
 have:=h l.reverse;rwa [List.reverse_reverse] at this
def BV(W:List (Al×Int))(c:Al):Option Int:=(W.reverse.find? λp=>decide (p.1=c)).map (·.2)
def tV:BV [] c=none:=rfl
def l7{v:Int}:BV (W++[(c0,v)]) c=if c0=c then some v else BV W c:=by
 unfold BV;rw[List.reverse_append];show ((((c0,v)::W.reverse).find? λp=>decide (p.1=c))).map (·.2)=_;rw[FZ];by_cases h:c0=c
 ·simp[h]
 ·simp[h]
def tW(h:∀p∈W,p.1≠c):BV W c=none:=by
 unfold BV;rw[List.find?_eq_none.mpr (λp a=>by simpa using h p (List.mem_reverse.mp a))];rfl
def fi{W V:List (Al×Int)}{c:Al}:BV (W++V) c=(BV V c).or (BV W c):=by
 unfold BV;rw[List.reverse_append,List.find?_append];cases V.reverse.find? (λp=>decide (p.1=c))<;>simp
def hJ{l:List Al}{c:Al}{v:Int}:BV (l.map λq=>(q,v)) c=if c∈l then some v else none:=by
 induction l using hH with
 | nil=>rfl
 | append_singleton l a ih=>
   rw[BG];show BV ((l.map λq=>(q,v))++[(a,v)]) c=_;rw[l7,ih];by_cases h:a=c
   ·subst h;simp
   ·have h':c≠a:=λz=>h z.symm
    simp[h,h']
theorem l8:∀{c f:List D},c.length=f.length->AD k c (List.zipWith (λd u=>if AJ d=some k' then v else u) c f)=if k=k' then (AD k c f).map λ_=>v else AD k c f
 | [],[],_=>by simp[AD]
 | a::c,b::f,h=>by
   show AD k (a::c) ((if AJ a=some k' then v else b)::List.zipWith _ c f)=_;unfold AD;by_cases e:AJ a=some k
   ·rw[if_pos e,if_pos e,e]
    by_cases z:k=k'
    ·subst z;simp
    ·simp[z]
   ·rw[if_neg e,if_neg e];exact l8 (by simpa using h)
 | [],_::_,h=>by cases h
 | _::_,[],h=>by cases h
theorem l9:∀{d c:List D},d.length=c.length->AD k (d++[AH k']) (c++[v])=(AD k d c).or (if k'=k then some v else none)
 | [],[],_=>by
   show AD k [AH k'] [v]=_;unfold AD;rw[cH];by_cases e:k'=k
   ·simp[e,AD]
   ·simp[e,AD]
 | a::d,b::c,h=>by
   show AD k (a::(d++[AH k'])) (b::(c++[v]))=_;unfold AD;by_cases e:AJ a=some k
   ·rw[if_pos e,if_pos e];rfl
   ·rw[if_neg e,if_neg e];exact l9 (by simpa using h)
 | [],_::_,h=>by cases h
 | _::_,[],h=>by cases h
open H in
def tX(h:b.length=a.length):AD k (AS k' v b a).1 (AS k' v b a).2=if k'=k then some v else AD k b a:=by
 unfold AS;split
 ·rename_i c
  rw[l8 h];by_cases e:k'=k
  ·subst e
   obtain⟨d,f⟩:=Option.isSome_iff_exists.mp c;rw[f];simp
  ·have e':k≠k':=λz=>e z.symm
   simp[e,e']
 ·rename_i c
  rw[l9 h];by_cases e:k'=k
  ·subst e
   have d:AD k' b a=none:=by simpa using c
   rw[d];simp
  ·simp[e]
def Df(d:D)(W:List (Al×Int)):Prop:=∃ks vs,d=.dct (.non::ks) vs/\D.immL vs=true/\ks.length=vs.length/\ks.length<=W.length/\∀c,AD (ck c) ks vs=(BV W c).map D.int
def Df.nil:Df (.dct [.non] []) []:={[],[],rfl,rfl,rfl,Am _,λc=>by simp[AD,tV]}
def Df.put{v:Int}(h:Df (.dct (.non::d) b) W):Df (.dct (.non::(AS (ck c0) (.int v) d b).1) (AS (ck c0) (.int v) d b).2) (W++[(c0,v)]):=by
 obtain⟨f,c,e,g,a,j,i⟩:=h;cases e;refine{_,_,rfl,eK ah g,(eW a).1,by have:=(eW (k:=ck c0) (v:=.int v) a).2;simp;omega,λc=>?_};rw[tX a,l7,i c];by_cases e:c0=c
 ·subst e;simp
 ·have e':ck c0≠ck c:=λz=>e (lS z)
  simp[e,e']
def Df.flat(h:Df d W):d.flat=true:=by
 obtain⟨c,b,rfl,a,_⟩:=h;exact a
instance wr(ts:List Tr):List (Al×Int):=ts.zipIdx.flatMap λp=>p.1.cells.map λc=>(c,(p.2:Int))
def hM:wr (a++[u])=wr a++u.cells.map λc=>(c,(a.length:Int)):=by
 unfold wr;rw[List.zipIdx_append,Ft];simp
def Ch(sh:List Al)(ts:List Tr):List (Al×Int):=(sh.map λc=>(c,-1))++wr ts
def ma(h:∀t∈b,c∉t.cells):BV (wr b) c=none:=by
 apply tW;rintro ⟨q,v⟩ a;unfold wr at a;obtain⟨⟨t,i⟩,g,j⟩:=EE.mp a;obtain⟨m,f,l⟩:=B7.mp j;have d:t∈b:=(List.mem_zipIdx g).2.2▸List.getElem_mem _;intro e;cases l;exact h t d (by rw[<-show q=c from e];exact f)
def tY{m:Nat}(hm:ts[m]?=some t)(hc:c∈t.cells)(ap:ts.Pairwise λa b=>∀c∈a.cells,c∉b.cells):BV (wr ts) c=some (m:Int):=by
 induction ts using hH with
 | nil=>simp at hm
 | append_singleton ts u ih=>
   rw[hM,fi,hJ];obtain⟨a1,_,a3⟩:=Ez.mp ap;by_cases h:m<ts.length
   ·rw[EU h] at hm
    have hcu:c∉u.cells:=a3 t (BI hm) u 'd' c hc;rw[if_neg hcu];simp only[Option.none_or];exact ih hm a1
   ·have hml:m=ts.length:=by
     have:=(AZ.mp hm).1;rw[A8] at this;simp at this;omega
    subst hml;rw[G9 (Am _)] at hm;simp at hm;subst hm;rw[if_pos hc];rfl
def hO{h f:Int}(g:Bc h f b a){m:Nat}(e:a[m]?=some t)(d:c∈t.cells):BV (Ch b a) c=some (m:Int):=by
 unfold Ch;rw[fi,tY e d g.apart];rfl
def tZ{i f:Int}(g:Bc i f a e)(b:c∈a):BV (Ch a e) c=some (-1):=by
 unfold Ch;rw[fi,ma λt d h=>(g.tr t d).free c h b,hJ,if_pos b];rfl
def t4(b:c∉a)(d:∀t∈e,c∉t.cells):BV (Ch a e) c=none:=by
 unfold Ch;rw[fi,ma d,hJ,if_neg b];rfl
def GZ:List D->Ap Unit D:=Bv 7 2 (yi3 GY).1
def t5{b c:Int}:Ba (Ar b c a d) (.int 2)=some (.tup (a.map Ah)):=by
 show im (some (D.tup (a.map Ah)))=_;simp[im,am,al ax a]
def hall3'{b c:Int}:Ba (Ar b c d a) (.int 3)=some (.tup (a.map Tr.kind)):=by
 show im (some (D.tup (a.map Tr.kind)))=_;simp[im,am,al bY a]
def t6(h:∀t∈ts,t.cells.length<=81):(wr ts).length<=81*ts.length:=by
 induction ts using hH with
 | nil=>simp[wr]
 | append_singleton ts u ih=>
   rw[hM,A8,Ag,A8];have h1:=ih λt ht=>h t (by simp[ht])
   have h2:=h u 'd';simp only[B4,FY];omega
def mc{x u:Int}(y:Cfg x u f ts)(J:∀d,Df d (Ch f ts)->Q d ()):Aa (GZ [Ar x u f ts,Ai ts]) Q E:=by
 refine aE rfl 'z' ?_;unfold yi3;dsimp only;have s:∀t∈ts,t.cells.length<=81:=λt A=>bF (y.wh t A).2.1 (y.wh t A).2.2.2
 have b:=y.few;have a:=y.sh;simp_all!;simp!;simp_all!;simp! [t5];refine aL (λi Z b=>∃(d:D) (n r o l:Sl),Z=[Sl.bor (Ar x u f ts),.bor (Ai ts),.own d,n,r,o,l]/\Df d ((f.take i).map λc=>(c,-1))) 0 {_,_,_,_,_,rfl,Df.nil} (λi e Z b g m P C=>?_) λZ b m=>?_
 ·obtain⟨d,n,r,o,l,h,a⟩:=m
  rw[AT] at g;cases q:f[i]? with
  | none=>rw[q] at g;cases g
  | some c=>
    rw[q] at g;cases g;subst h;rw[Ay] at a;obtain⟨B,E,rfl,G,M,z,I⟩:=id a;rw[Ag,C7] at z;refine{_,rfl,?_};simp! [DZ,G,dV];refine{B,E,rfl,eT 'o',C _ _ {_,_,_,_,_,rfl,?_}};rw[Ay];have:=a.put (c0:=c) (v:=-1);rwa [show (f.take i).map (λc=>(c,(-1:Int)))++[(c,-1)]=(f.take (i+1)).map λc=>(c,(-1:Int)) by rw[Cy,q,BG];rfl] at this
 ·obtain⟨d,n,r,o,l,h,a⟩:=m
  subst h;rw[Ay,Ag,C6] at a;simp!;simp_all!;have j:Ih [.tup (ts.map Tr.kind)]=some (Hs (ts.map Tr.kind)):=if_pos (al bY ts);simp! [hall3',j];refine aL (λi Z b=>∃(d:D) (n r o l:Sl),Z=[Sl.bor (Ar x u f ts),.bor (Ai ts),.own d,n,r,o,l]/\Df d (Ch f (ts.take i))) 0 {_,_,_,_,_,rfl,by unfold Ch wr;simpa using a} (λi e Z b g m P C=>?_) λZ b m=>?_
  ·obtain⟨d,n,r,o,l,h,a⟩:=m
   obtain⟨N,j,rfl⟩:=pP g;rw[AT] at j;cases q:ts[i]? with
   | none=>rw[q] at j;cases j
   | some t=>
     rw[q] at j;cases j;subst h;rw[Ay] at a;obtain⟨O,P,N,j⟩:=y.wh t (BI q);have j:i<ts.length:=(AZ.mp q).1;refine{_,rfl,?_};simp! [Ai,dW q];refine l6 (p:=(t.x,t.y)) 'o' 'o' O N ?_;have y:AL t.w t.h (t.x,t.y)=t.cells:=rfl;rw[y];simp!;refine aL (λj Z b=>∃(d:D) (n l:Sl),Z=[Sl.bor (Ar x u f ts),.bor (Ai ts),.own d,n,.bor (.int i),.bor t.kind,l]/\Df d (Ch f (ts.take i)++(t.cells.take j).map λc=>(c,(i:Int)))) 0 {_,_,_,rfl,by simpa using a} (λj e Z b g m P2 y=>?_) λZ b m=>?_
     ·obtain⟨d,n,l,h,a⟩:=m
      rw[AT] at g;cases b:t.cells[j]? with
      | none=>rw[b] at g;cases g
      | some c=>
        rw[b] at g;cases g;subst h;rw[Ay] at a;obtain⟨B,E,rfl,G,M,z,I⟩:=id a;have e:=t6 (ts:=ts.take i) λt A=>s t (GA A)
        have g:=s t (BI q);have g:B.length<=3000:=by
         unfold Ch at z;rw[A8,A8,Ag,Ag,C7] at z;rw[C7] at e;omega
        refine{_,rfl,?_};simp! [DZ,G,dV];refine{B,E,rfl,eT 'o',y _ _ {_,_,_,rfl,?_}};rw[Ay];have:=a.put (c0:=c) (v:=i);rwa [show Ch f (ts.take i)++(t.cells.take j).map (λc=>(c,(i:Int)))++[(c,(i:Int))]=Ch f (ts.take i)++(t.cells.take (j+1)).map λc=>(c,(i:Int)) by rw[Cy,b,BG,BB];rfl] at this
     ·obtain⟨d,n,l,h,a⟩:=m
      subst h;rw[Ay,Ag,C6] at a;refine C _ _ {d,_,_,_,_,rfl,?_};rw[Ay];have b:Ch f (ts.take (i+1))=Ch f (ts.take i)++t.cells.map λc=>(c,(i:Int)):=by
       unfold Ch;rw[Cy,q];show _++wr (ts.take i++[t])=_;rw[hM,C7,Fb 'o',BB]
      rw[b];exact a
  ·obtain⟨d,n,r,o,l,h,a⟩:=m
   subst h;rw[Ay,pQ,Ag,C6] at a;simp! [a.flat];exact J d a
def IY:List D->Ap Unit D:=Bv 2 2 xy8.1
def t7{a:Str}{d:Int}(e:De a)(c:Dir d)(b:Q (.bl (Bl a d)) ()):Aa (IY [.str a,.int d]) Q E:=by
 refine aE rfl 'z' ?_;unfold xy8;dsimp only;have a:∀{d:Int},iOp (λ_ j=>0<j) (λi j=>D.int (i % j)) (.int d) (.int 2)=some (.int (d % 2)):=λ{d}=>gv (C:=λ_ j=>0<j) 'z'
 rw  [ao];simp! [dH,cr,a];rcases e with r | r | r | r<;>subst r
 ·rw  [ao]
  simp! [dH];exact b
 ·rcases c.cases with r | r | r | r<;>subst r<;>exact b
 ·rw  [ao]
  simp! [dH,cr,a];rcases c.cases with r | r | r | r<;>subst r<;>exact b
 ·rw  [ao]
  simp! [dH];rcases c.cases with r | r | r | r<;>subst r<;>exact b
def G0:List D->Ap Unit D:=Bv 4 2 zr4.1
def md{d:Int}(a:Dir d)(b:Q (Ah (p.1+dx d,p.2+dy d)) ()):Aa (G0 [Ah p,.int d]) Q E:=by
 refine aE rfl 'z' ?_;unfold zr4;dsimp only;rw  [ao];simp!;rcases a.cases with r | r | r | r<;>subst r<;>refine{_,_,rfl,'z',rfl,?_}<;>simp?! [Ah,Ba,pt0,pt1,BO,AR,aR]<;>exact b
def dX{A5 A4:Int}(ho:Bc A5 A4 sh ts):Cfg A5 A4 sh ts where
 few:=ho.few
 sh:=Az ho.sub.length_le (bF ho.w9 ho.h9)
 wh:=λt ht=>by
  have to:=ho.tr t ht;have:=to.w1;have:=to.h1;have:=to.xw;have:=to.yh;have:=to.x0;have:=to.y0;have:=ho.w9;have:=ho.h9;exact{'o','o','o','o'}
def IZ:List D->Ap Unit D:=Bv 3 3 yo4.1
def t8{w h:Int}(a:Q (.bl (CJ w h c)) ()):Aa (IZ [.int w,.int h,Ah c]) Q E:=by
 refine aE rfl 'z' ?_;unfold yo4;dsimp only;simp! [Ah,Ba,pt0,pt1,AR];unfold CJ at a;by_cases d:0<=c.1<;>by_cases e:c.1<w<;>by_cases b:0<=c.2<;>by_cases f:c.2<h<;>simp[d,e,b,f,D.imm] at a ⊢<;>exact a
def me{w h:Int}:CJ w h c=true↔0<=c.1/\c.1<w/\0<=c.2/\c.2<h:=by
 simp[CJ];omega
def mf{n:Int}(d:∀c,AD (ck c) a b=(BV W c).map D.int):Ge (.dct (.non::a) b) (Ah c) (.int n)=some (.int ((BV W c).getD n)):=by
 show im (some ((AD (ck c) a b).getD (.int n)))=_;rw[d c];cases BV W c<;>rfl
def t9{p x:Int}(i:Bc p x j a){n:Nat}(r:c∉j):∃v:Nat,(BV (Ch j a) c).getD (n:Int)=(v:Int)/\(v=n\/∃u,a[v]?=some u/\c∈u.cells)/\∀m u,a[m]?=some u->c∈u.cells->m=v:=by
 by_cases h:∃(m:Nat) (u:Tr),a[m]?=some u/\c∈u.cells
 ·obtain⟨m,u,b,d⟩:=h
  refine{m,by rw[hO i b d];rfl,.inr ⟨u,b,d⟩,λm' u' o q=>?_};have e:=(hO i b d).symm.trans (hO i o q);have:=Option.some.inj e;omega
 ·have g:∀t∈a,c∉t.cells:=λt l f=>by
   obtain⟨m,s⟩:=D7 l;exact h ⟨m,t,s,f⟩
  exact{n,by rw[t4 r g];rfl,.inl rfl,λm u b d=>absurd ⟨m,u,b,d⟩ h}
def Ja:List D->Ap Unit D:=Bv 9 5 (yq8 IY GY G0 IZ).1
def uc{o l:Int}{n:Nat}{d:Int}(ho:Bc o l s f)(hn:f[n]?=some t)(hd:Dir d)(hh:Df dd (Ch s f))(hN:¬EJ o l s t d->Q .non ())(hL:∀g:List Nat,EJ o l s t d->g.Nodup->(∀m,m∈g↔m≠n/\∃u,f[m]?=some u/\Cn t u d)->Q (.lst (AA g)) ()):Aa (Ja [Ar o l s f,Ai f,dd,.int n,.int d]) Q E:=by
 refine aE rfl 'z' ?_;unfold yq8;dsimp only;obtain⟨ks,vs,rfl,k1,k2,k3,k4⟩:=hh;have hc:=dX ho;obtain⟨q1,q2,q3,q4⟩:=hc.wh t (BI hn);have kw:∀t:Tr,Ba t.kind (.int 2)=some (.str t.ways):=λt=>rfl
 have h0:Ba (Ar o l s f) (.int 0)=some (.int o):=rfl;have h1:Ba (Ar o l s f) (.int 1)=some (.int l):=rfl;have few:=hc.few;simp_all!;simp! [hall3',cx hn];simp_all!;simp! [kw];refine t7 (ho.tr t (BI hn)).ways hd ?_;by_cases B:Bl t.ways d=true
 ·rw[B]
  simp!;simp_all!;simp! [aV];rw  [ao];simp! [Ai,dW hn];refine md (p:=(t.x,t.y)) hd ?_;refine l6 (p:=((t.x,t.y).1+dx d,(t.x,t.y).2+dy d)) 'o' 'o' q1 q3 ?_;have ha:AL t.w t.h ((t.x,t.y).1+dx d,(t.x,t.y).2+dy d)=t.ahead d:=rfl;rw[ha];have ha81:(t.ahead d).length<=81:=bF q2 q4;simp!;refine lP (λi Z T=>∃(g:List Nat) (x7 x8:Sl),Z=[Sl.bor (Ar o l s f),.bor (Ai f),.bor (.dct (.non::ks) vs),.bor (.int n),.bor (.int d),.bor t.kind,.own (.lst (AA g)),x7,x8]/\g.Nodup/\(∀m∈g,m≠n/\∃u,f[m]?=some u/\Cn t u d)/\∀c∈(t.ahead d).take i,(c∉s/\0<=c.1/\c.1<o/\0<=c.2/\c.2<l)/\∀m u,f[m]?=some u->c∈u.cells->m≠n->m∈g) 0 {[],_,_,rfl,List.nodup_nil,λm hm=>absurd hm 'd',λc hc=>absurd hc 'd'} (λi e Z T W hI P pn pr=>?_) λZ T hI=>?_
  ·obtain⟨g,x7,x8,er,O,R,N⟩:=hI
   rw[AT] at W;cases q:(t.ahead d)[i]? with
   | none=>rw[q] at W;cases W
   | some c=>
     rw[q] at W;cases W;subst er;rw[Ay] at N;have J:=BI q;have hgl:g.length<=f.length:=bZ _ g O λm hm=>by
      obtain⟨_,u,hu,_⟩:=R m hm;exact(AZ.mp hu).1
     refine{_,rfl,?_};simp_all!;simp! [mf k4];refine{ks,vs,rfl,?_};simp! [mf k4];simp_all!;simp! [cr];by_cases I:c∈s
     ·rw[tZ ho I]
      simp! [Option.getD_some,bO];exact pr _ _ (hN λY=>(Y.2 c J).1 I)
     ·obtain⟨v,ev,hv1,hv2⟩:=t9 ho (c:=c) (n:=n) I
      rw[ev];have v1:(((v:Nat):Int) == -1)=false:=by rw[beq_eq_false_iff_ne];omega
      rw[v1];simp! [h0,h1];refine t8 ?_;by_cases G:CJ o l c=true
      ·rw[G]
       have U:=me.mp G;simp!;have on:∀g:List Nat,AA g=g.map λj:Nat=>D.int j:=λ_=>rfl
       have r:∀g':List Nat,(∀m∈g,m∈g')->(v≠n->v∈g')->∀c∈(t.ahead d).take (i+1),(c∉s/\0<=c.1/\c.1<o/\0<=c.2/\c.2<l)/\∀m u,f[m]?=some u->c∈u.cells->m≠n->m∈g':=λg' hs hv c' C=>by
        rw[Cy,q] at C;rcases BP.mp C with h | h
        ·exact{(N c' h).1,λm u e1 e2 e3=>hs m ((N c' h).2 m u e1 e2 e3)}
        ·have h:c'=c:=by simpa using h
         subst h;refine{⟨I,U⟩,λm u e1 e2 e3=>?_};have:=hv2 m u e1 e2;subst this;exact hv e3
       simp only[cr,on,hF];by_cases A:v=n
       ·have:(((v:Nat):Int) == ((n:Nat):Int))=true:=by rw[A];exact bO _
        rw[this];simp!;exact pn _ _ {g,_,_,rfl,O,R,by rw[Ay];exact r g (λm h=>h) λh=>absurd A h}
       ·have:(((v:Nat):Int) == ((n:Nat):Int))=false:=by rw[beq_eq_false_iff_ne];omega
        rw[this];simp!;by_cases z:v∈g
        ·rw[az z]
         simp!;exact pn _ _ {g,_,_,rfl,O,R,by rw[Ay];exact r g (λm h=>h) λ_=>z}
        ·rw[aw z]
         have M:D.immL (g.map λj:Nat=>D.int j)=true:=bG g;simp! [Bj,M];refine{_,bz ah (by rw[Ag];omega),pn _ _ {g++[v],.bor (Ah c),.bor (.int v),?_,?_,?_,by rw[Ay];exact r _ (λm h=>E8 _ h) λ_=>by simp}}
         ·unfold AA
          rw[BG];rfl
         ·rw[Fw]
          refine{O,'d',λa ha b hb e=>?_};rw[Bz.mp hb] at e;subst e;exact z ha
         ·intro m hm
          rcases BP.mp hm with h | h
          ·exact R m h
          ·rw[Bz.mp h]
           refine{A,?_};rcases hv1 with h | ⟨u,e1,e2⟩
           ·exact absurd h A
           ·exact⟨u,e1,c,e2,J⟩
      ·have hin2:CJ o l c=false:=by simpa using G
       rw[hin2];simp!;exact pr _ _ (hN λY=>G (me.mpr (Y.2 c J).2))
  ·obtain⟨g,x7,x8,er,O,R,N⟩:=hI
   subst er;rw[Ay,Ag,C6] at N;have M:D.immL (AA g)=true:=bG g;simp! [M];refine hL g {B,λc C=>(N c C).1} O λm=>{R m,λ⟨h1,u,h2,c,h3,h4⟩=>(N c h4).2 m u h2 h3 h1}
 ·have hgo':Bl t.ways d=false:=by simpa using B
  rw[hgo'];simp!;exact hN λY=>B Y.1
def G4:List D->Ap Unit D:=Bv 9 5 (zo9 Ja).1
instance muA(Z:Ae):Nat:=match (Z[7]?:Option Sl) with
 | some (Sl.bor (D.int a))=>20-a.toNat
 | _=>0
def ud{g h:List Nat}(a:h.length<=1000)(e:Q (AA (h.filter λk=>decide (k∉g))) ()) :
 Aa (Ds Unit (gN 0) (tP Unit (tb (o2 (oIn true) (vr 0) (vr 1)))) (fP Unit (vr 0)) (AA h) [] [x,.bor (.lst (AA g))] ()) Q E:=by
 refine cI (λn a Z c=>a=AA ((h.take n).filter λk=>decide (k∉g))/\∃x,Z=[x,.bor (.lst (AA g))]) 0 {rfl,_,rfl} (λi d a Z c b hI143=>?_) λa Z c hI142=>?_
 ·obtain⟨a,x,d⟩:=hI143
  unfold AA at b;rw[AT] at b;cases q:h[i]? with
  | none=>rw[q] at b;cases b
  | some k=>
    rw[q] at b;cases b;subst d;rw[Ay] at a;have b:∀g:List Nat,AA g=g.map λj:Nat=>D.int j:=λ_=>rfl
    refine{_,rfl,?_};simp! [b,hF];have c:(h.take (i+1)).filter (λk=>decide (k∉g))=(h.take i).filter (λk=>decide (k∉g))++[k].filter λk=>decide (k∉g):=by
     rw[Cy,q,List.filter_append];rfl
    by_cases b:k∈g
    ·rw[az b]
     simp!;refine{?_,_,rfl};rw[c,a];simp[b,AA]
    ·rw[aw b]
     simp!;refine{eT ?_,?_,_,rfl}
     ·rw[a];unfold AA
      rw[Ag];have:=FU (λk=>decide (k∉g)) (h.take i);rw[C7] at this;omega
     ·rw[c,a]
      simp[b,AA]
 ·obtain⟨a,x,d⟩:=hI142
  unfold AA at a;rw[Ay,Ag,C6] at a;rw[a];exact e
def ue{neg:Bool}{g:List Nat}:Bq neg (.lst (AA g)) (.lst [])=some (.bl (if neg then !decide (g=[]) else decide (g=[]))):=by
 have c:D.depL (AA g)<=0:=cq (n:=0) (λa=>by simp[D.dep]) g;cases g with
 | nil=>simp[Bq,AA,D.eqq,D.eqL,D.dep,D.depL]
 | cons a g=>
   have b:D.depL (AA (a::g))<=29:=Az c 'z';simp only[Bq,D.dep,Nat.reduceSubDiff];simp[AA,D.eqq,D.eqL,D.dep,D.depL] at b ⊢;omega
def mh{B x:Int}{n:Nat}{d:Int}(b:Bc B x A f)(R:f[n]?=some t0)(o:Dir d)(i:Df dd (Ch A f))(T:GX B x A f d n t0->Q .non ())(hL:∀g:List Nat,Bm B x A f d n g->Q (.tup (AA g)) ()):Aa (G4 [Ar B x A f,Ai f,dd,.int n,.int d]) Q E:=by
 refine aE rfl 'z' ?_;unfold zo9;dsimp only;have c:=dX b;have a:=c.few;have e:∀t:Tr,Ba t.kind (.int 3)=some (.int t.s):=λt=>rfl
 have c:=i.flat;have a:=(b.tr t0 (BI R)).st;simp_all!;simp! [hall3',cx R,e];simp_all!;simp! [cr];by_cases c:t0.s=-1
 ·have a:(t0.s == -1)=true:=by rw[c];rfl
  rw[a];simp!;exact T (.inl 'o')
 ·have a:(t0.s == -1)=false:=by rw[beq_eq_false_iff_ne];exact c
  rw[a];simp!;simp_all!;simp! [bi];simp_all!;simp!;rw  [ao];refine cO (λZ p=>∃(g:List Nat) (c:Nat) (a:Sl),Z=[Sl.bor (Ar B x A f),.bor (Ai f),.bor dd,.bor (.int n),.bor (.int d),.bor (.int t0.s),.own (.lst (AA g)),.bor (.int c),a]/\g.Nodup/\(∀m∈g,m<f.length/\D5 f d n m)/\n∈g/\c<=g.length/\(t0.s=0->∀m∈g,m=n)/\(∀j m t,j<c->g[j]?=some m->f[m]?=some t->EJ B x A t d/\∀k u,f[k]?=some u->Cn t u d->k∈g)) (λZ _=>muA Z) {[n],0,_,rfl,'d',λm l=>?_,'d','d',λ_ m l=>Bz.mp l,λj m t y=>absurd y (E9 _)} ?_
  ·rw[Bz.mp l]
   exact{(AZ.mp R).1,.self}
  ·intro Z p h P e pn pr pz
   obtain⟨g,c,a,rfl,U,N,O,e,Z,W⟩:=h;have a:g.length<=f.length:=bZ _ g U λm l=>(N m l).1
   have e:(AA g).length=g.length:=by unfold AA;rw[Ag]
   have a:∀g:List Nat,D.immL (AA g)=true:=bG;simp! [Cv,AR,e];by_cases J:c < g.length
   ·rw[az (show ((c:Nat):Int)<(g.length:Int) by omega),if_pos rfl]
    obtain⟨m,l⟩:∃m,g[c]?=some m:={_,AU J};have I:=BI l;obtain⟨e,C⟩:=N m I;obtain⟨t,s⟩:∃t,f[m]?=some t:={_,AU e};simp_all!;simp! [lY l];refine uc b s o i (λe=>?_) λh Q b p=>?_
    ·simp!
     simp_all!;simp! [CG,D.isNon];exact pr _ _ (T (.inr (.inl ⟨m,t,C,s,e⟩)))
    ·have G:∀k∈h,k<f.length/\D5 f d n k:=λk q=>by
      obtain⟨_,u,z,o⟩:=(p k).mp q;exact{(AZ.mp z).1,.more C s z o}
     have e:h.length<=f.length:=bZ _ h b λk q=>(G k q).1
     simp! [a];simp_all!;simp! [CG,D.isNon,aV,ue,cr];have Y:(t0.s=0->h=[])->Aa (E3 Unit (sMt Unit 6 Hr (F9 Unit [8] [none,some 6] (Ek Unit D.seq? (fVk Unit 8)) (gN 0) (tP Unit (tb (o2 (oIn true) (vr 0) (vr 1)))) (fP Unit (vr 0)))) (GP Unit 7 (fP Unit (cn (D.int 1))) λi j=>i+j) [Sl.bor (Ar B x A f),.bor (Ai f),.bor dd,.bor (.int n),.bor (.int d),.bor (.int t0.s),.own (.lst (AA g)),.bor (.int c),.own (.lst (AA h))] ()) P E:=λr=>by
      rw  [ao];simp! [a,Bj];refine ud 'o' ?_;have E:∀k∈h.filter (λk=>decide (k∉g)),k∈h/\k∉g:=λk q=>by simpa using q
      have i:∀k∈h,k∈g++h.filter λk=>decide (k∉g):=λk q=>by
       by_cases e:k∈g
       ·exact E8 _ e
       ·exact Ey _ (by simp[q,e])
      have a:(h.filter λk=>decide (k∉g)).length<=h.length:=FU _ _;have v:(h.filter λk=>decide (k∉g)).Nodup:=b.filter _;have M:t0.s=0->h.filter (λk=>decide (k∉g))=[]:=λe=>by rw[r e];rfl
      generalize h.filter (λk=>decide (k∉g))=r at E i a v M;have b:(AA r).length=r.length:=by unfold AA;rw[Ag]
      refine{_,dQ (bG r) 'o',?_};refine{_,_,rfl,rfl,pn _ _ {g++r,c + 1,.own (.lst (AA h)),?_,?_,?_,E8 _ O,?_,?_,?_} ?_}
      ·unfold AA;rw[BG];rfl
      ·rw[Fw]
       exact{U,v,λa r b P e=>by subst e;exact(E _ P).2 r}
      ·intro m' a
       rcases BP.mp a with e | e
       ·exact N m' e
       ·exact G m' (E m' e).1
      ·rw[A8];omega
      ·intro e m' a
       rw[M e,Ck] at a;exact Z e m' a
      ·intro j m' v y a b
       by_cases r:j=c
       ·subst r
        rw[EU J,l] at a;cases a;rw[s] at b;cases b;refine{Q,λk u z o=>?_};by_cases e:k=m
        ·subst e;exact E8 _ I
        ·exact i k ((p k).mpr ⟨e,u,z,o⟩)
       ·rw[EU 'o'] at a
        obtain⟨r,E⟩:=W j m' v 'o' a b;exact{r,λk u z o=>E8 _ (E k u z o)}
      ·show 20-((c:Int)+1).toNat<20-c
       omega
     by_cases a:h=[]
     ·rw[az a]
      simp!;exact Y λ_=>a
     ·rw[aw a]
      simp!;by_cases r:t0.s=1
      ·have b:(t0.s == 1)=true:=by rw[r];rfl
       rw[b];simp!;exact Y λe=>absurd e 'o'
      ·have b:(t0.s == 1)=false:=by rw[beq_eq_false_iff_ne];exact r
       rw[b];simp!;refine pr _ _ (T (.inr (.inr {'o',?_})));obtain⟨k,q⟩:=List.exists_mem_of_ne_nil h a;by_cases e:k=n
       ·refine{m,λe'=>((p k).mp q).1 (e.trans e'.symm),C}
       ·exact{k,e,(G k q).2}
   ·rw[aw (show ¬((c:Nat):Int)<(g.length:Int) by omega)]
    simp!;refine pz _ ?_;have i:∀m,m∈g↔D5 f d n m:=λm=>{λh=>(N m h).2,λh=>by
     induction h with
     | self=>exact O
     | more r a e c ih=>
       obtain⟨j,y⟩:=D7 ih;have b:j<g.length:=(AZ.mp y).1;exact(W j _ _ 'o' y a).2 _ _ e c}
    have a:∀m∈g,∀t,f[m]?=some t->EJ B x A t d:=λm l t s=>by
     obtain⟨j,y⟩:=D7 l;have b:j<g.length:=(AZ.mp y).1;exact(W j m t 'o' y s).1
    obtain⟨b,z,o,d⟩:=l0 g;have c:GQ [.lst (AA g)]=some (.lst (AA b)):=by
     show (Eo (AA g)).bind (λns=>if ns.length<64 then some (D.lst ((sortI ns).map D.int)) else none)=_;rw[lZ];show (if (g.map λj:Nat=>(j:Int)).length<64 then some (D.lst ((sortI (g.map λj:Nat=>(j:Int))).map D.int)) else none)=_;rw[if_pos (by rw[Ag];omega),z]
    simp! [c,FK,bG];exact hL b {o.symm.nodup U,d,λm=>by rw[o.mem_iff];exact i m,λm l=>(N m (o.mem_iff.mp l)).1,λm l=>a m (o.mem_iff.mp l),λt s=>by
     rw[R] at s;cases s;exact{'o',λz m l=>Z z m (o.mem_iff.mp l)}}
def Jb:List D->Ap Unit D:=Bv 4 4 (yq7 G4 GZ).1
def uf{c b:Int}{n:Nat}{d:Int}(f:Bc c b e a)(m:a[n]?=some t0)(j:Dir d)(i:GX c b e a d n t0->Q .non ())(l:∀g:List Nat,Bm c b e a d n g->Q (.tup (AA g)) ()):Aa (Jb [Ar c b e a,Ai a,.int n,.int d]) Q E:=by
 refine aE rfl 'z' ?_;unfold yq7;dsimp only;have h:=dX f;simp!;refine mc h λn d=>?_
 refine mh f m j d (λh=>?_) λg h=>?_
 ·exact{.inl imm_non,i h}
 ·exact{.inl (bG g),l g h}
def ug{t:Tr}{d:Int}:(t.to d).cells=t.ahead d:=rfl
def mi{t:Tr}{d:Int}{c:Al}:c∈t.ahead d↔(c.1-dx d,c.2-dy d)∈t.cells:=by
 unfold Tr.ahead Tr.cells;rw[bX,bX];simp only;omega
def Bc.moved{A5 A4:Int}{sh:List Al}{ts:List Tr}{g:List Nat}{d:Int}{n:Nat}(ho:Bc A5 A4 sh ts)(hg:Bm A5 A4 sh ts d n g):Bc A5 A4 sh (A7 ts g d) where
 w1:=ho.w1
 w9:=ho.w9
 h1:=ho.h1
 h9:=ho.h9
 sub:=ho.sub
 few:=by rw[bM];exact ho.few
 tr:=λt ht=>by
  obtain⟨i,hi⟩:=D7 ht;rw[bA] at hi;cases q:ts[i]? with
  | none=>rw[q] at hi;cases hi
  | some u=>
    rw[q] at hi;have hi:(if i∈g then u.to d else u)=t:=Option.some.inj hi;have hu:=ho.tr u (BI q);by_cases hgi:i∈g
    ·rw[if_pos hgi] at hi
     subst hi;have ok:=(hg.ok i hgi u q).2;have w1:=hu.w1;have h1:=hu.h1;have m1:(u.x+dx d,u.y+dy d)∈u.ahead d:=by unfold Tr.ahead;rw[bX];simp only;omega
     have m2:(u.x+dx d+u.w-1,u.y+dy d+u.h-1)∈u.ahead d:=by unfold Tr.ahead;rw[bX];simp only;omega
     obtain⟨_,a1,_,a3,_⟩:=ok _ m1;obtain⟨_,_,b2,_,b4⟩:=ok _ m2;simp only at a1 a3 b2 b4;exact{w1,h1,a1,by show u.x+dx d+u.w<=A5;omega,a3,by show u.y+dy d+u.h<=A4;omega,hu.ways,hu.st,λc hc=>(ok c hc).1}
    ·rw[if_neg hgi] at hi
     subst hi;exact hu
 apart:=by
  have ap:=Gv.mp ho.apart;have two:∀i j (a b:Tr),ts[i]?=some a->ts[j]?=some b->i≠j->∀c∈a.cells,c∉b.cells:=λi j a b ha hb hij c h1 h2=>by
   obtain⟨hi,rfl⟩:=AZ.mp ha;obtain⟨hj,rfl⟩:=AZ.mp hb;rcases Nat.lt_or_gt_of_ne hij with h | h
   ·exact ap i j hi hj h c h1 h2
   ·exact ap j i hj hi h c h2 h1
  refine Gv.mpr λi j hi hj hij c h1 h2=>?_
  have li:i<ts.length:=by rw[bM] at hi;exact hi
  have lj:j<ts.length:=by rw[bM] at hj;exact hj
  have ei:(A7 ts g d)[i]?=some ((A7 ts g d)[i]):=AU hi;have ej:(A7 ts g d)[j]?=some ((A7 ts g d)[j]):=AU hj;have qi:ts[i]?=some ts[i]:=AU li;have qj:ts[j]?=some ts[j]:=AU lj;rw[bA,qi] at ei;rw[bA,qj] at ej;have ei:(if i∈g then ts[i].to d else ts[i])=(A7 ts g d)[i]:=Option.some.inj ei;have ej:(if j∈g then ts[j].to d else ts[j])=(A7 ts g d)[j]:=Option.some.inj ej;rw[<-ei] at h1;rw[<-ej] at h2;have hne:i≠j:=Bk hij;by_cases gi:i∈g<;>by_cases gj:j∈g<;>simp only[gi,gj,if_true,if_false,ug] at h1 h2
  ·exact two i j _ _ qi qj hne _ (mi.mp h1) (mi.mp h2)
  ·exact gj ((hg.all j).mpr (.more ((hg.all i).mp gi) qi qj ⟨c,h2,h1⟩))
  ·exact gi ((hg.all i).mpr (.more ((hg.all j).mp gj) qj qi ⟨c,h1,h2⟩))
  ·exact two i j _ _ qi qj hne c h1 h2
theorem mj:∀(a b:List Nat),a.Pairwise (· < ·)->b.Pairwise (· < ·)->(∀m,m∈a↔m∈b)->a=b
 | [],[],_,_,_=>rfl
 | [],y::b,_,_,h=>absurd ((h y).mpr 'd') 'd'
 | x::a,[],_,_,h=>absurd ((h x).mp 'd') 'd'
 | x::a,y::b,c,d,h=>by
   rw[Ea] at c d;have g:x=y:=by
    have f:=(h x).mp 'd';have i:=(h y).mpr 'd';rcases AK.mp f with e | e
    ·exact e
    ·rcases AK.mp i with e' | e'
     ·exact e'.symm
     ·have:=d.1 x e
      have:=c.1 y e';omega
   subst g;rw[mj a b c.2 d.2 λm=>{λa=>?_,λa=>?_}]
   ·have f:=c.1 m a
    rcases AK.mp ((h m).mp (by simp[a])) with e | e
    ·omega
    ·exact e
   ·have f:=d.1 m a
    rcases AK.mp ((h m).mpr (by simp[a])) with e | e
    ·omega
    ·exact e
def Bm.lt'{e c:Int}{d:Int}{n:Nat}{g:List Nat}(h:Bm e c f i d n g):g.Pairwise (· < ·):=by
 have:=List.Pairwise.and h.up h.nd;exact this.imp λ⟨a,b⟩=>Fu a b
def Bm.one{c e:Int}{d:Int}{n:Nat}{g a:List Nat}(h:Bm c e f i d n g)(b:Bm c e f i d n a):g=a:=
 mj g a h.lt' b.lt' λm=>(h.all m).trans (b.all m).symm
def Bm.not{f j:Int}{d:Int}{n:Nat}{g:List Nat}(h:Bm f j l e d n g)(i:e[n]?=some t):¬GX f j l e d n t:=by
 rintro (a | ⟨m,d,a,c,b⟩ | ⟨a,m,c,b⟩)
 ·exact(h.str t i).1 a
 ·exact b (h.ok m ((h.all m).mpr a) d c)
 ·exact c ((h.str t i).2 a m ((h.all m).mpr b))
def Bm.len{c a:Int}{d:Int}{n:Nat}{g:List Nat}(h:Bm c a e b d n g):g.length<=b.length:=bZ _ g h.nd h.lt
def ml{neg:Bool}(h:D.depL l<=29):Bq neg (.lst l) (.lst [])=some (.bl (if neg then !decide (l=[]) else decide (l=[]))):=by
 cases l with
 | nil=>simp[Bq,D.eqq,D.eqL,D.dep,D.depL]
 | cons a g=>
   have b:(D.lst (a::g)).dep<=30:=by unfold D.dep;omega
   unfold Bq;rw[if_pos b];have e:D.eqq (.lst (a::g)) (.lst [])=some false:=by simp[D.eqq,D.eqL]
   rw[e];cases neg<;>simp
theorem Bo.pos{f e:Int}{d:Int}{n:Nat}{k:Nat}(h:Bo f e l d n i k a)(b:i[n]?=some t)(g:1<=t.w)(c:1<=t.h) :
 a[n]?=some { t with x:=t.x+k*dx d,y:=t.y+k*dy d }/\(1<=k->0<=t.x+k*dx d/\t.x+k*dx d<f/\0<=t.y+k*dy d/\t.y+k*dy d<e):=by
 induction h with
 | zero=>refine{?_,λh=>absurd h 'z'};rw[b];simp
 | @succ k a g _ h ih=>
   have a:n∈g:=(h.all n).mpr .self;obtain⟨ih,_⟩:=ih;have b:t.x+((k+1:Nat):Int)*dx d=t.x+k*dx d+dx d:=by rw[Int.natCast_add,Int.add_mul];simp;omega
   have c:t.y+((k+1:Nat):Int)*dy d=t.y+k*dy d+dy d:=by rw[Int.natCast_add,Int.add_mul];simp;omega
   constructor
   ·rw[bA,ih,b,c]
    simp only[BJ,if_pos a];rfl
   ·intro _
    have g:=h.ok n a _ ih;have j:(t.x+k*dx d+dx d,t.y+k*dy d+dy d)∈Tr.ahead { t with x:=t.x+k*dx d,y:=t.y+k*dy d } d:=by
     unfold Tr.ahead;rw[bX];refine{Int.le_refl _,?_,Int.le_refl _,?_}<;>simp only<;>omega
    have:=(g.2 _ j).2;rw[b,c];exact this
def Bo.le9{a b:Int}{d:Int}{n:Nat}{k:Nat}(h:Bo a b l d n f k ts')(i:f[n]?=some t)(e:1<=t.w)(j:1<=t.h)(c:0<=t.x/\t.x<9)(c:0<=t.y/\t.y<9)(c:a<=9)(g:b<=9)(c:Dir d):k<=9:=by
 by_cases g:1<=k
 ·obtain⟨_,p⟩:=h.pos i e j
  have p:=p g;rcases c.cases with r | r | r | r<;>subst r<;>simp[dx,dy] at p<;>omega
 ·omega
inductive CK(A5 A4:Int)(sh:List Al)(d:Int)(n:Nat):List Tr->List (List Tr)->Prop where
 | stop {ts:List Tr}:(∀g,¬Bm A5 A4 sh ts d n g)->CK A5 A4 sh d n ts []
 | go {ts:List Tr} {g:List Nat} {l:List (List Tr)}:Bm A5 A4 sh ts d n g->CK A5 A4 sh d n (A7 ts g d) l->CK A5 A4 sh d n ts (A7 ts g d::l)
inductive Dg(A5 A4:Int)(sh:List Al)(d:Int)(n:Nat)(ts:List Tr):List (List Tr)->List Tr->Prop where
 | nil:Dg A5 A4 sh d n ts [] ts
 | snoc {p:List (List Tr)} {cur:List Tr} {g:List Nat}:Dg A5 A4 sh d n ts p cur->Bm A5 A4 sh cur d n g->Dg A5 A4 sh d n ts (p++[A7 cur g d]) (A7 cur g d)
section
variable{A5 A4:Int}{d:Int}{n:Nat}
theorem CK.one(h:CK A5 A4 e d n f l):∀{b:List (List Tr)},CK A5 A4 e d n f b->l=b:=by
 induction h with
 | stop h=>intro b a;cases a with
   | stop _=>rfl
   | go c _=>exact absurd c (h _)
 | go c _ ih=>intro b a;cases a with
   | stop h=>exact absurd c (h _)
   | go b a=>
     have:=c.one b;subst this;rw[ih a]
theorem Dg.alng(h:Dg A5 A4 c d n f p a):∀{l:List (List Tr)},CK A5 A4 c d n a l->CK A5 A4 c d n f (p++l):=by
 induction h with
 | nil=>intro l b;exact b
 | snoc _ e ih=>intro l b;rw[BB];exact ih (.go e b)
theorem Dg.steps(h:Dg A5 A4 b d n e p a):Bo A5 A4 b d n e p.length a:=by
 induction h with
 | nil=>exact .zero
 | snoc _ c ih=>rw[A8];exact .succ ih c
theorem Dg.ok(h:Dg A5 A4 b d n e p a)(f:Bc A5 A4 b e):Bc A5 A4 b a:=by
 induction h with
 | nil=>exact f
 | snoc _ c ih=>exact ih.moved c
def Dg.le9(h:Dg A5 A4 f d n e p g)(b:Bc A5 A4 f e)(c:e[n]?=some t)(i:Dir d):p.length<=9:=by
 have a:=b.tr t (BI c);have j:=b.w9;have l:=b.h9;exact h.steps.le9 c a.w1 a.h1 {a.x0,by have:=a.xw;have:=a.w1;omega} {a.y0,by have:=a.yh;have:=a.h1;omega} j l i
end
open Classical in
def ET(A5 A4:Int)(sh:List Al)(ts:List Tr)(d:Int)(n:Nat):List (List Tr):=if h:∃l,CK A5 A4 sh d n ts l then h.choose else []
def CK.is{b a:Int}{d:Int}{n:Nat}(h:CK b a c d n f l):ET b a c f d n=l:=by
 unfold ET;have e:∃l,CK b a c d n f l:=⟨l,h⟩;rw[dif_pos e];exact e.choose_spec.one h
def Dg.is{c b:Int}{d:Int}{n:Nat}(h:Dg c b e d n f p a)(i:∀g,¬Bm c b e a d n g):ET c b e f d n=p:=by
 have:=(h.alng (.stop i)).is;rw[Ck] at this;exact this
structure Row where
 n:Nat
 d:Int
 k:Nat
 ts:List Tr
instance Row.push(r:Row):D:=E7 r.n r.d r.k
instance Row.data(r:Row):D:=.tup [r.push,Ai r.ts]
def fj{n:Nat}{d k:Int}:(E7 n d k).imm=true:=by simp[E7,D.imm,D.immL]
def cR:(Ai a).imm=true:=by unfold Ai;rw[am];exact al bc _
def bN(r:Row):r.data.imm=true:=by unfold Row.data Row.push;simp only[am,D.immL,fj,cR,EG]
def Dh(n:Nat)(d:Int)(p:List (List Tr)):List Row:=(p.zipIdx 1).map λq=>⟨n,d,q.2,q.1⟩
def uh{n:Nat}{d:Int}:Dh n d (p++[s])=Dh n d p++[{n,d,p.length+1,s}]:=by
 unfold Dh;rw[List.zipIdx_append,BG];simp[Cm]
def fm{n:Nat}{d:Int}:(Dh n d p).length=p.length:=by unfold Dh;simp
def CZ(A5 A4:Int)(sh:List Al)(ts:List Tr)(n i:Nat):List Row:=(List.range i).flatMap λd:Nat=>Dh n (d:Int) (ET A5 A4 sh ts (d:Int) n)
def Br(A5 A4:Int)(sh:List Al)(ts:List Tr)(m:Nat):List Row:=(List.range m).flatMap λn=>CZ A5 A4 sh ts n 4
def mm{b a:Int}{n i:Nat}:CZ b a c d n (i+1)=CZ b a c d n i++Dh n i (ET b a c d i n):=by
 unfold CZ;rw[FX,Ft];simp
def mn{a b:Int}{m:Nat}:Br a b c d (m+1)=Br a b c d m++CZ a b c d m 4:=by
 unfold Br;rw[FX,Ft];simp
def mo{c b:Int}{n:Nat}{d:Int}(m:Cfg c b f a)(e:n<a.length)(h:Dir d)(l:(∀g,¬Bm c b f a d n g)->∀j:Nat,Q (.int j) ())(i:∀g,Bm c b f a d n g->Q (Ai (A7 a g d)) ()):Aa (Gp [Ar c b f a,Ai a,E7 n d 1]) Q E:=by
 refine tU m e h 'z' 'z' (λk d t m h j e=>?_) λd h=>?_
 ·have:k=0:=by omega
  subst this;cases h;exact l (λg d=>d.not j e) 0
 ·cases h with
  | succ e d=>cases e;exact i _ d
def HJ:List D->Ap Unit D:=Bv 7 2 (zm4 Gp).1
instance muP(Z:Ae):Nat:=match (Z[6]?:Option Sl),(Z[5]?:Option Sl) with
 | some (Sl.bor (D.tup _)),some (Sl.bor (D.int a))=>30-a.toNat
 | _,_=>0
def ui{c b:Int}(s:Bc c b f a)(T:(Br c b f a a.length).length<=432->Q (.lst ((Br c b f a a.length).map Row.data)) ()):Aa (HJ [Ar c b f a,Ai a]) Q E:=by
 have g:[Ar c b f a,Ai a].length=2:=by simp
 have e:2<=7:=by decide
 have A:=@aE 7 2 (zm4 Gp).1 [Ar c b f a,Ai a] Q E g e;unfold HJ;with_reducible refine A ?_
 clear A;unfold zm4;dsimp only;have R:=dX s;have e:=s.few;simp_all!;simp! [aV];simp_all!;have e:Cv [Ai a]=some (.int a.length):=by unfold Ai Cv;simp
 simp! [e];rw[bE 'o' 'o'];refine aL (λi Z g=>∃(N z v u:Sl),Z=[Sl.bor (Ar c b f a),.bor (Ai a),.own (.lst ((Br c b f a i).map Row.data)),N,z,v,u]/\(Br c b f a i).length<=36*i) 0 {_,_,_,_,rfl,by simp[Br]} (λn e Z g h r P G=>?_) λZ g r=>?_
 ·obtain⟨N,z,v,u,l,q⟩:=r
  obtain⟨rfl,C⟩:=bt h;rw[Dz] at C;rw[Ay] at q l;rw[Ay] at G;subst l;have j:(0:Int)+(n:Int)=(n:Int):=by omega
  rw[j];obtain⟨t,y⟩:∃t,a[n]?=some t:={_,AU C};refine{_,rfl,?_};simp!;rw[show GK [.int 4]=some (Db 0 4) from rfl];refine aL (λi Z g=>∃(z v u:Sl),Z=[Sl.bor (Ar c b f a),.bor (Ai a),.own (.lst ((Br c b f a n++CZ c b f a n i).map Row.data)),.bor (.int n),z,v,u]/\(Br c b f a n++CZ c b f a n i).length<=36*n+9*i) 0 {_,_,_,by rw[show CZ c b f a n 0=[] from rfl,Ck],by rw[show CZ c b f a n 0=[] from rfl,Ck];exact q} (λi e Z g h r P2 o=>?_) λZ g r=>?_
  ·obtain⟨z,v,u,l,q⟩:=r
   obtain⟨rfl,e⟩:=bt h;rw[Ay] at q l;rw[Ay] at o;obtain⟨B,e⟩:∃B,B=Br c b f a n++CZ c b f a n i:={_,rfl};rw[mm,<-BB] at o;rw[<-e] at q l o;subst l;have e:(0:Int)+(i:Int)=(i:Int):=by omega
   rw[e];have J:Dir (i:Int):={'o','o'};refine{_,rfl,?_};simp_all!;simp!;simp_all!;simp! [eQ];have A:∀{x:D} {e:Ae},((∃g,x=Ai (A7 a g i)/\Bm c b f a i n g)\/∃j:Nat,x=.int j/\∀g,¬Bm c b f a i n g)->e=[Sl.bor (Ar c b f a),.bor (Ai a),.own (.lst (B.map Row.data)),.bor (.int n),.bor (.int i),.bor (.int 1),.bor x]->
    Aa (FJ Unit (tP Unit (tb (ti Bt.tuple (vr 6)))) (E3 Unit (sMt Unit 2 Ho (fP Unit (o1 CD (cs (o1 CD (cs (vr 3) (cs (vr 4) (cs (vr 5) nl)))) (cs (vr 6) nl))))) (E3 Unit (FH Unit 5 (fP Unit (o2 BO (vr 5) (cn (.int 1))))) (FH Unit 6 (GI Unit Gp (aP Unit (cs (vr 0) (cs (vr 6) (cs (o1 CD (cs (vr 3) (cs (vr 4) (cs (cn (.int 1)) nl)))) nl)))))))) e ()) P2 E:=λ{x e} m l=>by
    subst l;refine cO (λZ E=>∃(k:Nat) (p:List (List Tr)) (h:List Tr) (x:D),k=p.length+1/\Z=[Sl.bor (Ar c b f a),.bor (Ai a),.own (.lst ((B++Dh n i p).map Row.data)),.bor (.int n),.bor (.int i),.bor (.int k),.bor x]/\Dg c b f i n a p h/\((∃g,x=Ai (A7 h g i)/\Bm c b f h i n g)\/∃j:Nat,x=.int j/\∀g,¬Bm c b f h i n g)) (λZ _=>muP Z) {1,[],a,x,rfl,by rw[show Dh n i []=[] from rfl,Ck];rfl,.nil,m} ?_;intro Z E r P e G I U;obtain⟨k,p,h,x,Q,rfl,E,m⟩:=r;have e:=E.le9 s y J;simp!;rcases m with⟨g,rfl,M⟩ | ⟨j,rfl,m⟩
    ·obtain⟨e,x⟩:∃e,e=A7 h g i:={_,rfl}
     have s:=E.snoc M;rw[<-x] at s ⊢;have h:=s.steps;have ist:BZ Bt.tuple (Ai e)=true:=rfl;rw[ist,if_pos rfl,ao];simp! [eQ,Bj,al bN];have y:CD [D.tup [.int n,.int i,.int k],Ai e]=some (Row.data ⟨n,i,k,e⟩):=aR fj cR;rw[y];refine{_,bz (bN _) (by rw[Ag,A8,fm];omega),?_};simp_all!;simp! [BO,AR];have I:n<e.length:=by rw[h.len];exact C
     simp! [eQ];rw[<-bB h.kind];have done:∀y:D,((∃g,y=Ai (A7 e g i)/\Bm c b f e i n g)\/∃j:Nat,y=.int j/\∀g,¬Bm c b f e i n g)->P (.nx [Sl.bor (Ar c b f a),.bor (Ai a),.own (.lst ((B++Dh n i p).map Row.data++[Row.data ⟨n,i,k,e⟩])),.bor (.int n),.bor (.int i),.bor (.int (k+1)),.bor y]) ():=λy O=>by
      refine G _ _ ?_ ?_
      ·refine{k+1,p++[e],e,y,by rw[A8,Q];rfl,?_,s,O}
       rw[uh,<-BB,BG (l₁:=B++Dh n i p),Q];rfl
      ·have s:muP [Sl.bor (Ar c b f a),.bor (Ai a),.own (.lst ((B++Dh n i p).map Row.data)),.bor (.int n),.bor (.int i),.bor (.int k),.bor (Ai e)]=30-(k:Int).toNat:=rfl
       rw[<-x,s];rcases O with⟨g,rfl,_⟩ | ⟨j,rfl,_⟩
       ·show 30-((k:Int)+1).toNat<30-(k:Int).toNat
        omega
       ·show 0<30-(k:Int).toNat
        omega
     refine mo (n:=n) (d:=i) (h.cfg R) I J (λm j=>?_) λx s=>?_
     ·simp!
      rw[bB h.kind];exact done (.int j) (.inr {_,rfl,m})
     ·have p:(Ai (A7 e x i)).flat=false:=rfl
      simp! [p];rw[bB h.kind];exact done _ (.inl ⟨x,rfl,s⟩)
    ·have ist:BZ Bt.tuple (.int j)=false:=rfl
     rw[ist];simp!;rw[E.is m] at o;exact U _ (o _ _ {_,_,_,rfl,by rw[A8,fm];omega})
   refine mo (n:=n) (d:=i) R C J (λm j=>?_) λg M=>?_
   ·simp!
    exact A (.inr ⟨j,rfl,m⟩) rfl
   ·have p:(Ai (A7 a g i)).flat=false:=rfl
    simp! [p];exact A (.inl ⟨g,rfl,M⟩) rfl
  ·obtain⟨z,v,u,l,q⟩:=r
   subst l;rw[Ay,br] at q ⊢;rw[<-mn] at q ⊢;exact G _ _ {_,_,_,_,rfl,'o'}
 ·obtain⟨N,z,v,u,l,q⟩:=r
  subst l;rw[Ay,br,Dz] at q ⊢;simp! [al bN];exact T 'o'
def Jc:List D->Ap Unit D:=Bv 5 3 (zs4 G0).1
def uj{g:List Nat}{d:Int}(l:Dir d)(b:a.length<=12)(h:∀k∈g,k<a.length)(b:g.Nodup)(n:Q (Ai (A7 a g d)) ()):Aa (Jc [Ai a,.tup (AA g),.int d]) Q E:=by
 refine aE rfl 'z' ?_;unfold zs4;dsimp only;simp_all!;simp! [Ai,Ht,al bc];simp_all!;simp!;refine aL (λj Z c=>∃(i:Sl),Z=[Sl.bor (Ai a),.bor (.tup (AA g)),.bor (.int d),.own (.lst ((A7 a (g.take j) d).map Tr.place)),i]) 0 {_,by rw[List.take_zero,l3];rfl} (λj e Z c b f P m=>?_) λZ c f=>?_
 ·obtain⟨i,e⟩:=f
  unfold AA at b;rw[AT] at b;cases q:g[j]? with
  | none=>rw[q] at b;cases b
  | some k=>
    rw[q] at b;cases b;subst e;rw[Ay];have c:=h k (BI q);obtain⟨u,j⟩:∃u,a[k]?=some u:={_,AU c};have b:Ba (Ai a) (.int k)=some u.place:=dW j;refine{_,rfl,?_};simp! [b];refine md (p:=(u.x,u.y)) l ?_;simp! [Bj,al bc];refine{k,k,rfl,?_,ax _,m _ _ {.bor (.int k),?_}}
    ·unfold CC
     rw[if_pos 'o',if_pos (by rw[Ag,bM];omega)];simp
    ·have b:Ah ((u.x,u.y).1+dx d,(u.x,u.y).2+dy d)=(u.to d).place:=rfl
     rw[b,l4 j,Ay,Cy,q];rfl
 ·obtain⟨i,e⟩:=f
  subst e;have b:(AA g).length=g.length:=by unfold AA;rw[Ag]
  rw[Ay,b,C6];simp! [FK,al bc];exact n
instance Nx(A5 A4:Int)(sh:List Al)(cur:List Tr)(d:Int)(n:Nat)(x:D):Prop:=(x=.non/\∀g,¬Bm A5 A4 sh cur d n g)\/∃g,x=.tup (AA g)/\Bm A5 A4 sh cur d n g
def Nx.flat{c b:Int}{d:Int}{n:Nat}(h:Nx c b e a d n x):x.flat=false:=by
 rcases h with⟨rfl,_⟩ | ⟨g,rfl,_⟩<;>rfl
instance muE(Z:Ae):Nat:=match (Z[7]?:Option Sl),(Z[5]?:Option Sl) with
 | some (Sl.bor (D.tup _)),some (Sl.own (D.lst l))=>30-l.length
 | _,_=>0
def Jd:List D->Ap Unit D:=Bv 8 5 (zo5 G4 Jc Jb).1
def uk{i e:Int}{n:Nat}{d:Int}(q:Bc i e f a)(j:a[n]?=some t0)(u:Dir d)(b:Df dd (Ch f a))(B:(ET i e f a d n).length<=9->Q (.lst ((ET i e f a d n).map Ai)) ()):Aa (Jd [Ar i e f a,Ai a,dd,.int n,.int d]) Q E:=by
 refine aE rfl 'z' ?_;unfold zo5;dsimp only;have c:=q.few;have y:n<a.length:=(AZ.mp j).1;simp_all!;simp! [aV];simp_all!;simp!;simp_all!;simp!;refine aj (mh (Q:=λx _=>Nx i e f a d n x) q j u b (λh=>.inl {rfl,λg o=>o.not j h}) λg h=>.inr ⟨g,rfl,h⟩) (λx A b=>?_) λx s z=>z
 have c:=b.flat;simp! [c];rw  [ao];refine cO (λZ A=>∃(p:List (List Tr)) (c:List Tr) (x:D),Z=[Sl.bor (Ar i e f a),.bor (Ai a),.bor dd,.bor (.int n),.bor (.int d),.own (.lst (p.map Ai)),.bor (Ai c),.bor x]/\Dg i e f d n a p c/\Nx i e f c d n x) (λZ _=>muE Z) {[],a,x,rfl,.nil,b} ?_;intro Z A m P l E r C;obtain⟨p,c,x,rfl,l,b⟩:=m;have v:=l.le9 q j u;have m:=l.ok q;have j:=l.steps;have r:∀p:List (List Tr),D.immL (p.map Ai)=true:=λp=>al (λ_=>cR) p
 rcases b with⟨rfl,m⟩ | ⟨g,rfl,o⟩
 ·simp! [CG,D.isNon]
  refine C _ ?_;simp! [r];have:=l.is m;rw[this] at B;exact B v
 ·simp! [CG,D.isNon]
  simp_all!;simp!;refine uj u (by rw[j.len];omega) o.lt o.nd ?_;have j:=l.snoc o;have b:=j.steps;have m:=j.ok q;obtain⟨l,v⟩:∃l,l=A7 c g d:={_,rfl};rw[<-v] at j b m ⊢;have q:(Ai l).flat=false:=rfl;simp! [q];rw  [ao];simp! [Bj,r];refine{_,bz cR (by rw[Ag];omega),?_};obtain⟨r,q⟩:∃t,l[n]?=some t:={_,AU (by rw[b.len];exact y)};rw[<-bB b.kind];refine aj (uf (Q:=λx _=>Nx i e f l d n x) m q u (λh=>.inl {rfl,λg o=>o.not q h}) λg h=>.inr ⟨g,rfl,h⟩) (λy A m=>?_) λx s z=>z
  have h:=m.flat;simp! [h];rw[bB b.kind];refine E _ _ {p++[l],l,y,by rw[BG];rfl,j,m} ?_;have b:muE [Sl.bor (Ar i e f a),.bor (Ai a),.bor dd,.bor (.int n),.bor (.int d),.own (.lst (p.map Ai)),.bor (Ai c),.bor (.tup (AA g))]=30-(p.map Ai).length:=rfl;rw[b,Ag];rcases m with⟨rfl,_⟩ | ⟨b,rfl,_⟩
  ·show 0<30-p.length
   omega
  ·show 30-(p.map Ai++[Ai l]).length<30-p.length
   rw[A8,Ag];simp;omega
def Je:List D->Ap Unit D:=Bv 7 2 (zi9 GZ Jd).1
def JY(n i:Nat)(d:D):D:=match d with
 | .tup [k,s]=>.tup [.tup [.int n,.int i,k],s]
 | _=>.non
def ul{n i:Nat}:(Em 1 (p.map Ai)).map (JY n i)=(Dh n i p).map Row.data:=by
 unfold Em Dh;rw[List.zipIdx_map,Cz,Cz,Cz];refine List.map_congr_left λq _=>?_
 rfl
def um{c b:Int}(p:Bc c b f a)(A:(Br c b f a a.length).length<=432->Q (.lst ((Br c b f a a.length).map Row.data)) ()):Aa (Je [Ar c b f a,Ai a]) Q E:=by
 refine aE rfl 'z' ?_;unfold zi9;dsimp only;have e:=dX p;have d:=p.few;simp_all!;simp!;refine mc e λg j=>?_
 have d:=j.flat;simp! [d];simp_all!;simp! [aV];simp_all!;have d:Cv [Ai a]=some (.int a.length):=by unfold Ai Cv;simp
 simp! [d];rw[bE 'o' 'o'];refine aL (λi Z d=>∃(u r m:Sl),Z=[Sl.bor (Ar c b f a),.bor (Ai a),.own g,.own (.lst ((Br c b f a i).map Row.data)),u,r,m]/\(Br c b f a i).length<=36*i) 0 {_,_,_,rfl,by simp[Br]} (λn e Z d q o P z=>?_) λZ d o=>?_
 ·obtain⟨u,r,m,h,l⟩:=o
  obtain⟨rfl,s⟩:=bt q;rw[Dz] at s;rw[Ay] at l h;rw[Ay] at z;subst h;have x:(0:Int)+(n:Int)=(n:Int):=by omega
  rw[x];obtain⟨t,v⟩:∃t,a[n]?=some t:={_,AU s};refine{_,rfl,?_};simp!;rw[show GK [.int 4]=some (Db 0 4) from rfl];refine aL (λi Z d=>∃(r m:Sl),Z=[Sl.bor (Ar c b f a),.bor (Ai a),.own g,.own (.lst ((Br c b f a n++CZ c b f a n i).map Row.data)),.bor (.int n),r,m]/\(Br c b f a n++CZ c b f a n i).length<=36*n+9*i) 0 {_,_,by rw[show CZ c b f a n 0=[] from rfl,Ck],by rw[show CZ c b f a n 0=[] from rfl,Ck];exact l} (λi e Z d q o P2 g=>?_) λZ d o=>?_
  ·obtain⟨r,m,h,l⟩:=o
   obtain⟨rfl,d⟩:=bt q;rw[Ay] at l h;rw[Ay] at g;obtain⟨B,d⟩:∃B,B=Br c b f a n++CZ c b f a n i:={_,rfl};rw[mm,<-BB] at g;rw[<-d] at l h g;subst h;have d:(0:Int)+(i:Int)=(i:Int):=by omega
   rw[d];have q:Dir (i:Int):={'o','o'};refine{_,rfl,?_};simp_all!;simp!;refine uk p v q j λs=>?_
   obtain⟨p,v⟩:∃p,p=ET c b f a i n:={_,rfl};rw[<-v] at s ⊢;have d:D.immL (p.map Ai)=true:=al (λ_=>cR) p;have j:Hw 1 [.lst (p.map Ai)]=some (Em 1 (p.map Ai)):=rfl;simp! [d];simp! [Bj,al bN,j];refine bW (JY n i) (λZ=>∃x y,Z=[x,y,.bor (.int n),.bor (.int i)]) {_,_,rfl} (λd q Z hI144=>?_) (aU (by rw[fY,Ag];omega)) ?_
   ·obtain⟨x,y,e⟩:=hI144
    subst e;obtain⟨j,x⟩:=D7 q;obtain⟨s,d,rfl⟩:=fX x;rw[AT] at d;cases q:p[j]? with
    | none=>rw[q] at d;cases d
    | some s'=>
      rw[q] at d;have d:Ai s'=s:=Option.some.inj d;subst d;refine{_,rfl,{_,_,rfl},⟨rfl,rfl⟩,?_};have d:CD [D.tup [.int n,.int i,.int (j+1:Nat)],Ai s']=some (Row.data ⟨n,i,j+1,s'⟩):=aR fj cR;simp! [eQ,d];exact{rfl,bN _}
   ·rw[ul]
    refine{_,dQ (al bN _) (by rw[Ag,Ag,fm];omega),?_};rw[<-BG];rw[<-v] at g;exact g _ _ {_,_,rfl,by rw[A8,fm];omega}
  ·obtain⟨r,m,h,l⟩:=o
   subst h;rw[Ay,br] at l ⊢;rw[<-mn] at l ⊢;exact z _ _ {_,_,_,rfl,'o'}
 ·obtain⟨u,r,m,h,l⟩:=o
  subst h;rw[Ay,br,Dz] at l ⊢;simp! [al bN];exact A 'o'
section
variable{A5 A4:Int}{d:Int}{n:Nat}{k:Nat}
theorem Bo.front{g:List Nat}(f:Bm A5 A4 b c d n g)(h:Bo A5 A4 b d n (A7 c g d) k a):Bo A5 A4 b d n c (k+1) a:=by
 induction h with
 | zero=>exact .succ .zero f
 | succ _ e ih=>exact .succ ih e
theorem CK.get(h:CK A5 A4 c d n e l):∀{i:Nat} {s:List Tr},l[i]?=some s->Bo A5 A4 c d n e (i+1) s:=by
 induction h with
 | stop _=>intro i s a;simp at a
 | go b _ ih=>
   intro i s a;cases i with
   | zero=>simp at a;subst a;exact .succ .zero b
   | succ i=>exact .front b (ih (by simpa using a))
theorem Bo.ok(h:Bo A5 A4 b d n e k a)(f:Bc A5 A4 b e):Bc A5 A4 b a:=by
 induction h with
 | zero=>exact f
 | succ _ c ih=>exact ih.moved c
theorem Bo.first(h:Bo A5 A4 i d n l k c):∀j,k=j+1->∃g,Bm A5 A4 i l d n g/\Bo A5 A4 i d n (A7 l g d) j c:=by
 induction h with
 | zero=>intro j e;cases e
 | @succ k mid g a f ih=>
   intro j e;cases e;cases k with
   | zero=>cases a;exact{g,f,.zero}
   | succ k=>
     obtain⟨g0,a,b⟩:=ih k rfl;exact{g0,a,.succ b f}
theorem CK.has(h:CK A5 A4 i d n f l):∀{k:Nat} {a:List Tr},Bo A5 A4 i d n f (k+1) a->l[k]?=some a:=by
 induction h with
 | stop e=>
   intro k a b;obtain⟨g,c,_⟩:=b.first k rfl;exact absurd c (e g)
 | @go f g l c e ih=>
   intro k a b;obtain⟨g,e,b⟩:=b.first k rfl;have:=c.one e;subst this;cases k with
   | zero=>cases b;rfl
   | succ k=>exact ih b
end
section
variable{α:Type}[DecidableEq α]
def AF(W:List α):List α->List α
 | []=>[]
 | e::es=>if e∈W then AF W es else e::AF (W++[e]) es
theorem hQ:∀(W a b:List α),AF W (a++b)=AF W a++AF (W++AF W a) b
 | W,[],b=>by simp[AF]
 | W,e::a,b=>by
   show (if e∈W then AF W (a++b) else e::AF (W++[e]) (a++b))=(if e∈W then AF W a else e::AF (W++[e]) a)++AF (W++(if e∈W then AF W a else e::AF (W++[e]) a)) b;by_cases h:e∈W
   ·rw[if_pos h,if_pos h];exact hQ W a b
   ·rw[if_neg h,if_neg h,hQ,List.cons_append,BB];rfl
def mq{e:α}:AF W (a++[e])=AF W a++(if e∈W++AF W a then [] else [e]):=by
 rw[hQ];rfl
theorem cy{x:α}:∀{es W:List α},x∈AF W es↔x∈es/\x∉W
 | [],W=>by simp[AF]
 | e::es,W=>by
   unfold AF;by_cases h:e∈W
   ·rw[if_pos h,cy]
    constructor
    ·exact λ⟨a,b⟩=>{EA _ a,b}
    ·rintro ⟨a,b⟩
     rcases AK.mp a with rfl | a
     ·exact absurd h b
     ·exact⟨a,b⟩
   ·rw[if_neg h,AK,cy]
    constructor
    ·rintro (rfl | ⟨a,b⟩)
     ·exact⟨EW,h⟩
     ·exact{EA _ a,λz=>b (E8 _ z)}
    ·rintro ⟨a,b⟩
     by_cases q:x=e
     ·exact .inl q
     ·refine .inr {(AK.mp a).resolve_left q,λz=>?_}
      rcases BP.mp z with z | z
      ·exact b z
      ·exact q (Bz.mp z)
theorem cz:∀{es W:List α},W.Nodup->(W++AF W es).Nodup
 | [],W,h=>by simpa [AF] using h
 | e::es,W,h=>by
   unfold AF;by_cases q:e∈W
   ·rw[if_pos q];exact cz h
   ·rw[if_neg q]
    have c:(W++[e]).Nodup:=Fw.mpr {h,'d',λa d b e e'=>by rw[Bz.mp e] at e';exact q (e'▸d)};have:=cz (es:=es) c;rwa [BB] at this
structure Bf(α:Type)[DecidableEq α] where
 nb:α->List α
 srt:List α->List α
 perm:∀l,(srt l).Perm l
 s:α
instance Bf.st(B:Bf α):Nat->List α×List α
 | 0=>([B.s],[B.s])
 | n+1=>(B.srt (AF (B.st n).2 ((B.st n).1.flatMap B.nb)),(B.st n).2++AF (B.st n).2 ((B.st n).1.flatMap B.nb))
abbrev Bf.L(B:Bf α)(n:Nat):List α:=(B.st n).1
abbrev Bf.S(B:Bf α)(n:Nat):List α:=(B.st n).2
variable{B:Bf α}
theorem Bf.nd:∀n,(B.S n).Nodup
 | 0=>by show [B.s].Nodup;simp
 | n+1=>cz (Bf.nd n)
instance Bf.F(B:Bf α)(n:Nat):List (List α):=(List.range n).map B.L
def Bf.F_succ{n:Nat}:B.F (n+1)=B.F n++[B.L n]:=by unfold Bf.F;rw[FX,BG];rfl
theorem Bf.all:∀n,(B.F (n+1)).flatten.Perm (B.S n)
 | 0=>by show ([[B.s]]:List (List α)).flatten.Perm [B.s];simp
 | n+1=>by
   rw[Bf.F_succ,List.flatten_append];refine(Bf.all n).append ?_;simp only[Fx,List.flatten_nil,Ck];exact B.perm _
def Bf.flat_nd(n:Nat):(B.F (n+1)).flatten.Nodup:=(Bf.all n).nodup_iff.mpr (Bf.nd n)
def Bf.mem_S{n:Nat}{x:α}:x∈B.S n↔∃i,i<=n/\x∈B.L i:=by
 rw[<-(Bf.all n).mem_iff,List.mem_flatten];unfold Bf.F;constructor
 ·rintro ⟨l,c,a⟩
  obtain⟨i,b,rfl⟩:=B7.mp c;exact{i,by have:=EF.mp b;omega,a}
 ·rintro ⟨i,b,a⟩
  exact{_,B7.mpr {i,EF.mpr 'o',rfl},a}
def Bf.new{n:Nat}{x:α}:x∈B.L (n+1)↔(∃p∈B.L n,x∈B.nb p)/\x∉B.S n:=by
 show x∈B.srt _↔_;rw[(B.perm _).mem_iff,cy,EE]
theorem Bf.lt{i j:Nat}{x:α}(h:i<j)(a:x∈B.L i)(b:x∈B.L j):False:=by
 cases j with
 | zero=>omega
 | succ j=>exact(Bf.new.mp b).2 (Bf.mem_S.mpr {i,'o',a})
def Bf.one{i j:Nat}{x:α}(a:x∈B.L i)(b:x∈B.L j):i=j:=by
 rcases Nat.lt_trichotomy i j with h | h | h
 ·exact(Bf.lt h a b).elim
 ·exact h
 ·exact(Bf.lt h b a).elim
open H in
def Bf.next{i:Nat}{p q:α}(b:p∈B.L i)(a:q∈B.nb p):∃j,j<=i+1/\q∈B.L j:=by
 by_cases h:q∈B.S i
 ·obtain⟨j,c,z⟩:=Bf.mem_S.mp h
  exact{j,'o',z}
 ·exact{i+1,Am _,Bf.new.mpr {⟨p,b,a⟩,h}}
def Bf.nil{i:Nat}(h:B.L i=[]):B.L (i+1)=[]:=by
 refine List.eq_nil_iff_forall_not_mem.mpr λx b=>?_
 obtain⟨⟨p,a,_⟩,_⟩:=Bf.new.mp b;rw[h] at a;cases a
theorem Bf.nils{i j:Nat}(a:i<=j)(h:B.L i=[]):B.L j=[]:=by
 induction a with
 | refl=>exact h
 | step _ ih=>exact Bf.nil ih
theorem Bf.le:∀{n:Nat},(∀i,i<=n->B.L i≠[])->n+1<=(B.S n).length
 | 0,_=>by show 1<=([B.s]:List α).length;simp
 | n+1,h=>by
   have:=Bf.le (n:=n) λi a=>h i 'o'
   have b:0<(B.L (n+1)).length:=by
    cases q:B.L (n+1) with
    | nil=>exact absurd q (h _ (Am _))
    | cons a l=>simp
   have e:(B.L (n+1)).length=(AF (B.st n).2 ((B.st n).1.flatMap B.nb)).length:=(B.perm _).length_eq;show n+1+1<=((B.st n).2++AF (B.st n).2 ((B.st n).1.flatMap B.nb)).length;rw[A8];have t:n+1<=(B.st n).2.length:=this;omega
theorem Bf.good{G:α->Prop}(b:G B.s)(c:∀p q,G p->q∈B.nb p->G q):∀n,∀x∈B.L n,G x
 | 0,x,a=>by rw[Bz.mp a];exact b
 | n+1,x,a=>by
   obtain⟨⟨p,d,e⟩,_⟩:=Bf.new.mp a;exact c p x (Bf.good b c n p d) e
def Bf.goodS{G:α->Prop}(a:G B.s)(c:∀p q,G p->q∈B.nb p->G q){n:Nat}{x:α}(b:x∈B.S n):G x:=by
 obtain⟨i,_,z⟩:=Bf.mem_S.mp b;exact Bf.good a c i x z
def Bf.keep{n:Nat}(h:B.L n=[]){j:Nat}(b:n<=j){x:α}(a:x∈B.S j):∃i,i<n/\x∈B.L i:=by
 obtain⟨i,_,z⟩:=Bf.mem_S.mp a;by_cases q:i<n
 ·exact⟨i,q,z⟩
 ·rw[Bf.nils 'o' h] at z;cases z
end
instance Tr.pos(t:Tr):Al:=(t.x,t.y)
section
variable{A5 A4:Int}{sh:List Al}{ts us vs:List Tr}
def uo{m:Nat}(h:r∈Br A5 A4 sh ts m):r.n<m/\Dir r.d/\1<=r.k/\Bo A5 A4 sh r.d r.n ts r.k r.ts:=by
 unfold Br CZ at h;obtain⟨n,g,h⟩:=EE.mp h;obtain⟨d,a,h⟩:=EE.mp h;have g:=EF.mp g;have a:=EF.mp a;unfold Dh at h;obtain⟨⟨s,i⟩,e,rfl⟩:=B7.mp h;obtain⟨a,b,c⟩:=List.mem_zipIdx e;have f:(ET A5 A4 sh ts d n)[i-1]?=some s:=by
  rw[c];exact AU _
 have e:∃l,CK A5 A4 sh d n ts l:=by
  apply Classical.byContradiction;intro e;unfold ET at f;rw[dif_neg e] at f;simp at f
 obtain⟨l,b⟩:=e;rw[b.is] at f;have:=b.get f;rw[show i-1+1=i by omega] at this;exact{g,{by show (0:Int)<=d;omega,by show (d:Int)<4;omega},a,this}
structure EK(t u:Tr):Prop where
 w:u.w=t.w
 h:u.h=t.h
 ways:u.ways=t.ways
 s:u.s=t.s
 x:Bl t.ways 0=false->u.x=t.x
 y:Bl t.ways 1=false->u.y=t.y
def EK.refl:EK t t:={rfl,rfl,rfl,rfl,λ_=>rfl,λ_=>rfl}
def EK.trans(a:EK t u)(b:EK u v):EK t v:=
 {b.w.trans a.w,b.h.trans a.h,b.ways.trans a.ways,b.s.trans a.s,λh=>(b.x (by rw[a.ways];exact h)).trans (a.x h),λh=>(b.y (by rw[a.ways];exact h)).trans (a.y h)}
def EK.to{d:Int}(a:Dir d)(h:Bl t.ways d=true):EK t (t.to d):=by
 refine{rfl,rfl,rfl,rfl,λe=>?_,λe=>?_}
 ·show t.x+dx d=t.x
  rcases a.cases with rfl | rfl | rfl | rfl
  ·rw[h] at e;cases e
  ·simp[dx]
  ·have:Bl t.ways 2=Bl t.ways 0:=rfl
   rw[<-this,h] at e;cases e
  ·simp[dx]
 ·show t.y+dy d=t.y
  rcases a.cases with rfl | rfl | rfl | rfl
  ·simp[dy]
  ·rw[h] at e;cases e
  ·simp[dy]
  ·have:Bl t.ways 3=Bl t.ways 1:=rfl
   rw[<-this,h] at e;cases e
structure C2(ts us:List Tr):Prop where
 len:us.length=ts.length
 at_:∀(i:Nat) t u,ts[i]?=some t->us[i]?=some u->EK t u
def C2.refl:C2 ts ts:={rfl,λi t u b a=>by rw[b] at a;cases a;exact .refl}
def C2.trans(a:C2 ts us)(b:C2 us vs):C2 ts vs:={b.len.trans a.len,λi t v d f=>by
 have e:i<us.length:=by rw[a.len];exact(AZ.mp d).1
 have c:=AU e;exact(a.at_ i t _ d c).trans (b.at_ i _ v c f)}
open H in
theorem Bo.sibs{d:Int}{n k:Nat}(c:Dir d)(h:Bo A5 A4 sh d n ts k us):C2 ts us:=by
 induction h with
 | zero=>exact .refl
 | @succ k mid g a e ih=>
   refine ih.trans {bM,λi t u b a=>?_};rw[bA,b] at a;have a:(if i∈g then t.to d else t)=u:=Option.some.inj a;subst a;split
   ·rename_i d;exact .to c (e.ok i d t b).1
   ·exact .refl
theorem C2.kind(a:C2 ts us):us.map Tr.kind=ts.map Tr.kind:=by
 refine GC λi=>?_
 rw[AT,AT];cases q:ts[i]? with
 | none=>rw[List.getElem?_eq_none (by rw[a.len];exact List.getElem?_eq_none_iff.mp q)]
 | some t=>
   have c:i<us.length:=by rw[a.len];exact(AZ.mp q).1
   have b:=AU c;have z:=a.at_ i t _ q b;rw[b];show some (kd _ _ _ _)=some (kd _ _ _ _);rw[z.w,z.h,z.ways,z.s]
instance Tr.at_(t:Tr)(p:Al):Tr:={ t with x:=p.1,y:=p.2 }
instance atT(ts:List Tr)(ps:List Al):List Tr:=List.zipWith Tr.at_ ts ps
theorem C2.at_eq(a:C2 ts us):atT ts 'm'=us:=by
 refine GC λi=>?_
 unfold atT;rw[List.getElem?_zipWith,AT];cases q:ts[i]? with
 | none=>rw[List.getElem?_eq_none (by rw[a.len];exact List.getElem?_eq_none_iff.mp q)]
 | some t=>
   have c:i<us.length:=by rw[a.len];exact(AZ.mp q).1
   have b:=AU c;have z:=a.at_ i t _ q b;rw[b];show some (Tr.at_ t (Tr.pos us[i]))=some us[i];have:∀u:Tr,EK t u->Tr.at_ t u.pos=u:=λu z=>by
    obtain⟨w,h,a,s,x,y⟩:=u;obtain⟨b,c,d,a,_,_⟩:=z;simp only at b c d a;unfold Tr.at_ Tr.pos;rw[b,c,d,a]
   rw[this _ z]
def bC:Ai us=Ao 'm':=by unfold Ai;show D.tup _=D.tup _;rw[Cz];rfl
def HK(A5:Int)(t:Tr):Nat:=if Bl t.ways 0 then (A5-t.w+1).toNat else 1
def G5(A4:Int)(t:Tr):Nat:=if Bl t.ways 1 then (A4-t.h+1).toNat else 1
def Fo(A5 A4:Int)(t:Tr):List Al:=(List.range (HK A5 t)).flatMap λi:Nat=>(List.range (G5 A4 t)).map λj:Nat=>(if Bl t.ways 0 then (i:Int) else t.x,if Bl t.ways 1 then (j:Int) else t.y)
theorem hU{α β:Type}{f:α->List β}{n:Nat}:∀{l:List α},(∀a,(f a).length=n)->(l.flatMap f).length=l.length*n
 | [],_=>by simp
 | a::l,h=>by rw[List.flatMap_cons,A8,hU h,h a,B4,Nat.succ_mul,Cm]
def uq{t:Tr}:(Fo A5 A4 t).length=HK A5 t*G5 A4 t:=by
 unfold Fo;rw[hU (n:=G5 A4 t) (λi=>by rw[Ag,Dy]),Dy]
def ur(h:FR A5 A4 sh t):((Fo A5 A4 t).length:Int)=CI A5 A4 t.w t.h t.ways:=by
 have b:((A5-t.w+1).toNat:Int)=A5-t.w+1:=Int.toNat_of_nonneg (by have:=h.x0;have:=h.xw;omega);have a:((A4-t.h+1).toNat:Int)=A4-t.h+1:=Int.toNat_of_nonneg (by have:=h.y0;have:=h.yh;omega);rw[uq,Int.natCast_mul];unfold HK G5;rcases h.ways with e | e | e | e<;>rw[e]
 ·rw[if_pos 'z',if_pos 'z',b,a];rfl
 ·rw[if_pos 'z',if_neg 'z',b];unfold CI;rw[if_neg 'z',if_pos 'z'];exact Int.mul_one _
 ·rw[if_neg 'z',if_pos 'z',a];unfold CI;rw[if_neg 'z',if_neg 'z',if_pos 'z'];exact Int.one_mul _
 ·rw[if_neg 'z',if_neg 'z'];unfold CI;rw[if_neg 'z',if_neg 'z',if_neg 'z'];rfl
def ut(h:EK t u)(a:FR A5 A4 sh u):u.pos∈Fo A5 A4 t:=by
 have b:=a.x0;have d:=a.xw;have c:=a.y0;have e:=a.yh;have d:=h.w;have a:=h.h;unfold Fo;rw[EE];refine{if Bl t.ways 0 then u.x.toNat else 0,?_,B7.mpr {if Bl t.ways 1 then u.y.toNat else 0,?_,?_}}
 ·unfold HK
  rw[EF];split<;>omega
 ·unfold G5
  rw[EF];split<;>omega
 ·unfold Tr.pos
  refine Prod.ext ?_ ?_
  ·show (if Bl t.ways 0 then ((if Bl t.ways 0 then u.x.toNat else 0:Nat):Int) else t.x)=u.x
   cases q:Bl t.ways 0 with
   | true=>simp only[if_true];exact Int.toNat_of_nonneg b
   | false=>simp only[Dw,if_false];exact(h.x q).symm
  ·show (if Bl t.ways 1 then ((if Bl t.ways 1 then u.y.toNat else 0:Nat):Int) else t.y)=u.y
   cases q:Bl t.ways 1 with
   | true=>simp only[if_true];exact Int.toNat_of_nonneg c
   | false=>simp only[Dw,if_false];exact(h.y q).symm
def Fp(A5 A4:Int):List Tr->List (List Al)
 | []=>[[]]
 | t::ts=>(Fo A5 A4 t).flatMap λp=>(Fp A5 A4 ts).map (p::·)
theorem mr:∀{ts:List Tr},(∀t∈ts,FR A5 A4 sh t)->((Fp A5 A4 ts).length:Int)=CY A5 A4 ts
 | [],_=>rfl
 | t::ts,h=>by
   show (((Fo A5 A4 t).flatMap λp=>(Fp A5 A4 ts).map (p::·)).length:Int)=CI A5 A4 t.w t.h t.ways*CY A5 A4 ts;rw[<-ur (h t EW),<-mr λu a=>h u (EA _ a),hU (n:=(Fp A5 A4 ts).length) (λp=>by rw[Ag]),Int.natCast_mul]
theorem ms:∀{ts us:List Tr},C2 ts us->(∀u∈us,FR A5 A4 sh u)->us.map Tr.pos∈Fp A5 A4 ts
 | [],us,a,_=>by
   have:us=[]:=Hd.mp a.len;subst this;exact Bz.mpr rfl
 | t::ts,[],a,_=>by have:=a.len;simp at this
 | t::ts,u::us,a,h=>by
   show u.pos::us.map Tr.pos∈(Fo A5 A4 t).flatMap λp=>(Fp A5 A4 ts).map (p::·)
   refine EE.mpr {u.pos,ut (a.at_ 0 t u rfl rfl) (h u EW),B7.mpr {_,ms {by have:=a.len;simpa using this,λi x y b c=>a.at_ (i+1) x y b c} λv a=>h v (EA _ a),rfl}}
theorem mw{α:Type}[DecidableEq α]:∀{l m:List α},l.Nodup->(∀x∈l,x∈m)->l.length<=m.length
 | [],m,_,_=>AE _
 | a::l,m,h,s=>by
   have c:=Fe.mp h;have:=mw (l:=l) (m:=m.erase a) c.2 λx b=>(List.mem_erase_of_ne (λe:x=a=>c.1 (e▸b))).mpr (s x (EA _ b))
   rw[List.length_erase_of_mem (s a EW)] at this;have p:0<m.length:=List.length_pos_of_mem (s a EW);simp only[B4];omega
end
section
variable{A5 A4:Int}
instance Gd(A5 A4:Int)(sh:List Al)(ts:List Tr)(p:List Al):Prop:=∃us,p=us.map Tr.pos/\Bc A5 A4 sh us/\C2 ts us
def Gd.few(f:Bc A5 A4 d b)(a:CY A5 A4 b<=90)(c:l.Nodup)(h:∀p∈l,Gd A5 A4 d b p):l.length<=90/\okS l=true:=by
 have a:l.length<=(Fp A5 A4 b).length:=mw c λp a=>by
  obtain⟨us,rfl,e,c⟩:=h p a;exact ms c e.tr
 have g:=mr f.tr;refine{'o',?_};unfold okS;rw[FW];refine{az 'o',?_};rw[Bool.or_eq_true];by_cases e:b=[]
 ·subst e
  have:(Fp A5 A4 []).length=1:=rfl;exact .inl (az 'o')
 ·refine .inr (List.all_eq_true.mpr λp a=>?_)
  obtain⟨us,rfl,_,c⟩:=h p a;have:us≠[]:=λz=>by subst z;have:=c.len;exact e (Hd.mp this.symm)
  cases us with
  | nil=>exact absurd rfl this
  | cons _ _=>rfl
def Bw(A5 A4:Int)(sh:List Al)(ts:List Tr):Bf (List Al) where
 nb:=λp=>(Br A5 A4 sh (atT ts p) ts.length).map λr=>r.ts.map Tr.pos
 srt:=λl=>DM Ts.stO l
 perm:=λl=>e9 (O:=Ts.stO) l
 s:=ts.map Tr.pos
def gd0(c:Bc A5 A4 b a):Gd A5 A4 b a (Bw A5 A4 b a).s:={a,rfl,c,.refl}
def hV(h:C2 a us):(Bw A5 A4 b a).nb 'm'=(Br A5 A4 b us us.length).map λr=>r.ts.map Tr.pos:=by
 show (Br A5 A4 b (atT a 'm') a.length).map _=_;rw[h.at_eq,h.len]
def gd1(c:Gd A5 A4 a b p)(d:q∈(Bw A5 A4 a b).nb p):Gd A5 A4 a b q:=by
 obtain⟨us,rfl,g,e⟩:=c;rw[hV e] at d;obtain⟨r,h,rfl⟩:=B7.mp d;obtain⟨_,f,_,c⟩:=uo h;exact{r.ts,rfl,c.ok g,e.trans (c.sibs f)}
def gdL(c:Bc A5 A4 a b){n:Nat}:∀p∈(Bw A5 A4 a b).L n,Gd A5 A4 a b p:=Bf.good (gd0 c) (λ_ _=>gd1) n
def gdS(d:Bc A5 A4 a b){n:Nat}:∀p∈(Bw A5 A4 a b).S n,Gd A5 A4 a b p:=λp c=>Bf.goodS (gd0 d) (λ_ _=>gd1) c
end
abbrev SD(W:List (List Al))(vs:List D):D:=.dct (.non::W.map Ao) vs
theorem mx:∀p:List Al,EO (p.map CW)=some (Ei p)
 | []=>rfl
 | a::p=>by
   show (Ga (CW a)).bind (λx=>(EO (p.map CW)).map λr=>x::r)=_;rw[mx p];rfl
def cS(p:List Al):AJ (Ao p)=some (Ei p):=mx p
def hX(p:List Al):AH (Ei p)=Ao p:=by
 unfold AH Ei;show D.tup _=D.tup _;rw[Cz];rfl
theorem my:∀{p q:List Al},Ei p=Ei q->p=q
 | [],[],_=>rfl
 | [],_::_,h=>by cases h
 | _::_,[],h=>by cases h
 | a::p,b::q,h=>by
   have d:=List.cons.inj h;have c:a.1=b.1/\a.2=b.2:=by simpa using d.1
   rw[my d.2,Prod.ext c.1 c.2]
theorem hZ:∀{W:List (List Al)} {a:List D},a.length=W.length->(AD (Ei p) (W.map Ao) a).isSome=decide (p∈W)
 | [],a,h=>by cases a with
   | nil=>simp[AD]
   | cons _ _=>cases h
 | q::W,[],h=>by cases h
 | q::W,u::a,h=>by
   show (AD (Ei p) (Ao q::W.map Ao) (u::a)).isSome=_;unfold AD;rw[cS];by_cases e:q=p
   ·subst e;simp
   ·have e':Ei q≠Ei p:=λz=>e (my z)
    have b:¬p=q:=λz=>e z.symm
    rw[if_neg (by simpa using e'),hZ (by simpa using h)];simp[b]
def mz(h:a.length=W.length)(b:p∉W):AS (Ei p) v (W.map Ao) a=((W++[p]).map Ao,a++[v]):=by
 unfold AS;rw[hZ h,if_neg (by simpa using b),hX,BG];rfl
def mB(neg:Bool)(h:vs.length=W.length):Dt neg (Ao p) (SD W vs)=some (.bl (if neg then !decide (p∈W) else decide (p∈W))):=by
 unfold Dt;show (AJ (Ao p)).map _=_;rw[cS,BJ,hZ h]
def uu(h:a.length=W.length)(b:p∉W)(c:v.imm=true)(d:W.length<sizeLine):Fk (SD W a) (Ao p) v=some (SD (W++[p]) (a++[v])):=by
 unfold Fk;show (AJ (Ao p)).bind _=_;rw[cS,Option.bind_some,if_pos {c,by rw[Ag];exact d},mz h b]
def dY(p:List Al):(Ao p).imm=true:=by rw[am];exact al ax p
def bD(l:List (List Al)):D.immL (l.map Ao)=true:=al dY l
section
variable{i:Nat}{Z:Ae}{st:D}{Q:D->D->Prop}{QF:Fl->D->Prop}{E:AG->D->Prop}{fk fv:Fn D}
def cT:hnd? Z i=true↔Z[i]?=some .hnd:={e8,λh=>by unfold hnd?;rw[h]}
def uv{neg:Bool}:Aa (Gh neg i fk Z st) Q E↔Z[i]?=some .hnd/\Aa (fk Z st) (λb a=>Aa (Aw (Dt neg b a) a) Q E) E:=by
 unfold Gh;by_cases h:hnd? Z i=true
 ·rw[if_pos h,ae];exact{λq=>{cT.mp h,q},λq=>q.2}
 ·rw[if_neg h];exact{λq=>q.elim,λq=>absurd (cT.mpr q.1) h}
def uw:Aa (HE i Z st) Q E↔Z[i]?=some .hnd/\Aa (Aw (GS [st]) st) Q E:=by
 unfold HE;by_cases h:hnd? Z i=true
 ·rw[if_pos h];exact{λq=>{cT.mp h,q},λq=>q.2}
 ·rw[if_neg h];exact{λq=>q.elim,λq=>absurd (cT.mpr q.1) h}
def ux:Aa (IG i fk fv Z st) QF E↔Aa (fv Z st) (λv b=>Z[i]?=some .hnd/\Aa (fk Z b) (λk a=>∃d,Fk a k v=some d/\QF (.nx Z) d) E) E:=by
 unfold IG;refine aG λv b=>?_
 by_cases h:hnd? Z i=true
 ·rw[if_pos h]
  refine Iff.trans (aG (P:=λk a=>∃d,Fk a k v=some d/\QF (.nx Z) d) λk a=>?_) {λq=>{cT.mp h,q},λq=>q.2};rw[ae,ar];exact Iff.rfl
 ·rw[if_neg h];exact{λq=>q.elim,λq=>absurd (cT.mpr q.1) h}
end
def Jf:List D->D->Ap D D:=El 1 1 IK.1
def uy(h:W.length<=1000)(d:Q .non (SD W a)):Aa (Jf [] (SD W a)) Q E:=by
 refine dD rfl 'z' ?_;unfold IK;dsimp only;have c:GS [SD W a]=some (.int W.length):=by
  unfold GS;show (if (W.map Ao).length<=1000 then some (D.int (W.map Ao).length) else none)=_;rw[Ag,if_pos h]
 have b:decide ((2000:Int)<(W.length:Int))=false:=aw 'o';simp! [uw,c,AR,b];exact d
instance lbF:List D->D->Ap D D:=FN 7 3 (IM Je Jf).1
def uz{S:Type}{n p:Nat}{B:Ax S}{l:List D}{a:S}{Q:D->S->Prop}{E:AG->S->Prop}(e:l.length+1=p)(c:p<=n)(h:Aa (B (D1 n l) a) (λb a=>match b with
 | .rt d=>Q d a
 | .nx _=>Q .non a
 | _=>False) E):Aa (FN n p B l a) Q E:=by
 unfold FN;rw[if_pos ⟨e,c⟩];cases q:B (D1 n l) a with
 | bad=>rw[q] at h;exact h
 | exc x u=>rw[q] at h;exact h
 | ok b u=>rw[q] at h;cases b<;>exact h
section
variable{A5 A4:Int}
def uA{n:Nat}{R:List D}{Q:D->D->Prop}{E:AG->D->Prop}(O:Bc A5 A4 b c)(m:CY A5 A4 c<=90)(f:R.length=((Bw A5 A4 b c).S n).length)(hi:D.immL R=true)(Y:∀a,a.length=((Bw A5 A4 b c).S (n+1)).length->D.immL a=true->Q (.lst (((Bw A5 A4 b c).L (n+1)).map Ao)) (SD ((Bw A5 A4 b c).S (n+1)) a)) :
 Aa (lbF [Ar A5 A4 b c,.fl (((Bw A5 A4 b c).L n).map Ao)] (SD ((Bw A5 A4 b c).S n) R)) Q E:=by
 refine uz rfl 'z' ?_;unfold IM;dsimp only;obtain⟨B,d⟩:∃B,B=Bw A5 A4 b c:={_,rfl};have e:∀n,∀p∈B.S n,Gd A5 A4 b c p:=λn=>by rw[d];exact gdS O
 have o:∀n,∀p∈B.L n,Gd A5 A4 b c p:=λn=>by rw[d];exact gdL O
 have N:∀us,C2 c us->B.nb 'm'=(Br A5 A4 b us us.length).map λr=>r.ts.map Tr.pos:=λus h=>by rw[d];exact hV h
 have U:∀p q,Gd A5 A4 b c p->q∈B.nb p->Gd A5 A4 b c q:=λp q=>by rw[d];exact gd1
 have J:∀l,B.srt l=DM Ts.stO l:=λl=>by rw[d];rfl
 rw[<-d] at Y f ⊢;clear d;have I:∀es:List (List Al),(∀p∈es,Gd A5 A4 b c p)->(B.S n++AF (B.S n) es).length<=90:=λes h=>(Gd.few O m (cz (Bf.nd n)) λp m=>by
  rcases BP.mp m with z | z
  ·exact e n p z
  ·exact h p (cy.mp z).1).1
 rw[show D1 7 [Ar A5 A4 b c,D.fl ((B.L n).map Ao)]=[Sl.bor (Ar A5 A4 b c),.bor (.fl ((B.L n).map Ao)),.hnd,.no,.no,.no,.no] from rfl];simp_all!;simp! [aV];simp_all!;simp!;refine aL (λi Z d=>∃(W u s:Sl) (a:List D),Z=[Sl.bor (Ar A5 A4 b c),.bor (.fl ((B.L n).map Ao)),.hnd,.own (.lst ((AF (B.S n) (((B.L n).take i).flatMap B.nb)).map Ao)),W,u,s]/\d=SD (B.S n++AF (B.S n) (((B.L n).take i).flatMap B.nb)) a/\a.length=(B.S n++AF (B.S n) (((B.L n).take i).flatMap B.nb)).length/\D.immL a=true) 0 {_,_,_,R,rfl,by simp[AF],by simpa [AF] using f,hi} (λi e Z d g C P Q=>?_) λZ d C=>?_
 ·obtain⟨W,u,s,a,A,es,E,x⟩:=C
  rw[AT] at g;cases q:(B.L n)[i]? with
  | none=>rw[q] at g;cases g
  | some p=>
    rw[q] at g;cases g;subst A es;obtain⟨us,rfl,j,v⟩:=o n p (BI q);have P:(B.L n).take (0+i+1)=(B.L n).take (0+i)++[us.map Tr.pos]:=by rw[Ay,Cy,q];rfl
    have T:∀q∈((B.L n).take (0+i)).flatMap B.nb,Gd A5 A4 b c q:=λM f=>by
     obtain⟨p',y,z⟩:=EE.mp f;exact U p' M (o n p' (GA y)) z
    have h:((B.L n).take (0+i+1)).flatMap B.nb=((B.L n).take (0+i)).flatMap B.nb++B.nb 'm':=by rw[P,Ft];simp
    have G:∀q∈B.nb 'm',Gd A5 A4 b c q:=λM f=>U _ M (o n _ (BI q)) f
    rw[h] at Q;generalize ((B.L n).take (0+i)).flatMap B.nb=es at T Q E;clear P h;refine{_,rfl,?_};simp_all!;simp!;rewrite [<-bC,<-bB v.kind];refine um j λf=>?_
    have q:=N us v;generalize Br A5 A4 b us us.length=rows at f q;simp! [al bN];refine aL (λj Z d=>∃(u s:Sl) (a:List D),Z=[Sl.bor (Ar A5 A4 b us),.bor (.fl ((B.L n).map Ao)),.hnd,.own (.lst ((AF (B.S n) (es++(B.nb 'm').take j)).map Ao)),.bor (Ai us),u,s]/\d=SD (B.S n++AF (B.S n) (es++(B.nb 'm').take j)) a/\a.length=(B.S n++AF (B.S n) (es++(B.nb 'm').take j)).length/\D.immL a=true) 0 {u,s,a,'d','d',by simpa using E,x} (λj e Z d g C P2 f=>?_) λZ d C=>?_
    ·obtain⟨u,s,h,A,i,d,e⟩:=C
     rw[AT] at g;cases M:rows[j]? with
     | none=>rw[M] at g;cases g
     | some r=>
       rw[M] at g;cases g;subst A i;have N:(B.nb 'm').take (0+j+1)=(B.nb 'm').take (0+j)++[r.ts.map Tr.pos]:=by rw[Ay,Cy,q,AT,M];rfl
       have g:∀p∈es++(B.nb 'm').take (0+j),Gd A5 A4 b c p:=λp m=>by
        rcases BP.mp m with z | z
        ·exact T p z
        ·exact G p (GA z)
       rw[N,<-BB,mq] at f;have P:=I _ g;generalize es++(B.nb 'm').take (0+j)=es2 at g f d P;generalize j:AF (B.S n) es2=N at f d P;refine{_,rfl,?_};simp! [uv,bC];rewrite [mB true d];simp!;by_cases M:r.ts.map Tr.pos∈B.S n++N
       ·rw[if_neg (by rw[az M];decide)]
        rw[if_pos M,Ck] at f;exact f _ _ {_,_,h,by rw[bC],rfl,d,e}
       ·rw[if_pos (by rw[aw M];rfl)]
        rw[if_neg M] at f;simp_all!;simp! [ux];have j:r.push.imm=true:=fj;have g:(D.tup [r.push,Ao 'm']).imm=true:=by rw[am];simp only[D.immL,j,dY,EG]
        rewrite [aR j (dY _)];simp!;refine{_,uu d M g (lt_size 'o'),?_};simp! [Bj,bD];have j:N.length<=90:=by rw[A8] at P;omega
        refine{_,bz (dY _) (by rw[Ag];omega),?_};simp!;refine f _ _ {_,_,h++[D.tup [r.push,Ao 'm']],by rw[bC,BG];rfl,by rw[<-BB],?_,?_}
        ·rw[<-BB,A8,A8,d];rfl
        ·exact bI e (show (D.imm _&&true)=true by rw[g];rfl)
    ·obtain⟨u,s,h,A,i,d,e⟩:=C
     subst A i;have f:0+(rows.map Row.data).length=(B.nb 'm').length:=by rw[q,Ag,Ag,Ay]
     rw[f,C6] at d ⊢;have P:=I (es++B.nb 'm') λp m=>by
      rcases BP.mp m with z | z
      ·exact T p z
      ·exact G p z
     simp!;refine uy 'o' ?_;exact Q _ _ {_,_,_,h,by rw[bB v.kind],rfl,d,e}
 ·obtain⟨W,u,s,a,A,es,E,x⟩:=C
  subst A es;rw[Ay,Ag,C6] at E ⊢;simp!;have d:=Gd.few O m (l:=AF (B.S n) ((B.L n).flatMap B.nb)) (Fw.mp (cz (Bf.nd n))).2.1 λp m=>by
   obtain⟨p',y,z⟩:=EE.mp (cy.mp m).1;exact U p' p (o n p' y) z
  have e:Gj [D.lst ((AF (B.S n) ((B.L n).flatMap B.nb)).map Ao)]=some (.lst ((B.L (n+1)).map Ao)):=by
   unfold Gj;show (ES ((AF (B.S n) ((B.L n).flatMap B.nb)).map Ao)).bind _=_;rw[gY,Option.bind_some,if_pos d.2];show _=some (D.lst ((B.srt (AF (B.S n) ((B.L n).flatMap B.nb))).map Ao));rw[J]
  rewrite [e];simp! [bD];exact Y a E x
end
def Jg:List D->Ap Unit D:=Bv 6 3 (IP lbF).1
abbrev AC(l:List (List (List Al))):List D:=l.map λm=>D.fl (m.map Ao)
structure Jh(B:Bf (List Al))(most N k:Nat):Prop where
 full:∀i,i<N->B.L i≠[]
 cut:(B.L N=[]/\k=N/\N<=most)\/(N=most+1/\k=most)
instance muL(Z:Ae):Nat:=match (Z[4]?:Option Sl) with
 | some (.own (.lst l))=>100-l.length
 | _=>0
def cU(m:List (List Al)):(D.fl (m.map Ao)).imm=true:=by
 unfold D.imm;first | rfl | exact bD m
def bu(l:List (List (List Al))):D.immL (AC l)=true:=al cU l
def uB{a b:Int}:(Ar a b c d).imm=true:=by
 unfold Ar;simp only[am,D.immL,ah,al ax,al bY,EG]
def h6(l:List (List (List Al))):(D.fl (AC l)).imm=true:=by
 unfold D.imm;first | rfl | exact bu l
def mC:II [a,b]=some (.tup [a,b]):=if_pos (aU 'd')
def uC(p:List Al):(Ao p).dep<=2:=by
 show D.depL (p.map CW)+1<=2;have:=cq (n:=1) lQ p;exact FV this
def h7(l:List (List Al)):D.depL (l.map Ao)<=2:=cq (n:=2) uC l
section
variable{A5 A4:Int}{sh:List Al}{ts:List Tr}
def uE{d:Nat}(g:Bc A5 A4 sh ts)(h:CY A5 A4 ts<=90)(p:∀N k f,Jh (Bw A5 A4 sh ts) d N k->N<=90->f.length=((Bw A5 A4 sh ts).S k).length->D.immL f=true->Q (.tup [.fl (AC ((Bw A5 A4 sh ts).F N)),SD ((Bw A5 A4 sh ts).S k) f]) ()) :
 Aa (Jg [Ar A5 A4 sh ts,Ai ts,.int d]) Q E:=by
 refine aE rfl 'z' ?_;unfold IP;dsimp only;simp_all!;rewrite [bC];simp! [k9];have b:DY [Ao (ts.map Tr.pos)]=some (.lst [Ao (ts.map Tr.pos)]):=bi (bD [ts.map Tr.pos]) 'd';have a:D.immL ((ts.map Tr.pos).map CW)=true:=al ax _;refine{_,cS _,?_};rewrite [hX];simp_all!;simp! [aV];simp_all!;simp! [b,a];obtain⟨B,j⟩:∃B,B=Bw A5 A4 sh ts:={_,rfl};have s:∀{n:Nat} {f:List D} {Q:D->D->Prop} {E:AG->D->Prop},f.length=(B.S n).length->D.immL f=true->(∀e,e.length=(B.S (n+1)).length->D.immL e=true->Q (.lst ((B.L (n+1)).map Ao)) (SD (B.S (n+1)) e))->Aa (lbF [Ar A5 A4 sh ts,.fl ((B.L n).map Ao)] (SD (B.S n) f)) Q E:=λa b c=>by
  rw[j] at a c ⊢;exact uA g h a b c
 have m:∀n,(B.S n).length<=90:=λn=>(Gd.few g h (Bf.nd n) (by rw[j];exact gdS g)).1
 have b:B.L 0=[ts.map Tr.pos]:=by rw[j];rfl
 have a:B.S 0=[ts.map Tr.pos]:=by rw[j];rfl
 have n:∀k,(∀i,i<k->B.L i≠[])->k<=90:=λk h=>by
  cases k with
  | zero=>omega
  | succ k=>exact Az (Bf.le λi g=>h i 'o') (m k)
 rw[<-j] at p;clear j;simp_all!;refine cO (λZ c=>∃k f,Z=[Sl.bor (Ar A5 A4 sh ts),.bor (Ao (ts.map Tr.pos)),.bor (.int d),.own (SD (B.S k) f),.own (.lst (AC (B.F k))),.own (.lst ((B.L k).map Ao))]/\k<=d/\(∀i,i<k->B.L i≠[])/\f.length=(B.S k).length/\D.immL f=true) (λZ _=>muL Z) {0,[.non],by rw[b,a];rfl,'o',λi g=>by omega,by rw[a];rfl,rfl} λZ c b P a z j y=>?_
 obtain⟨k,f,rfl,u,c,q,g⟩:=b;have r:=n k c;have o:=ml (neg:=true) (l:=(B.L k).map Ao) (Az (h7 _) 'z');have b:(AC (B.F k)).length=k:=by unfold AC Bf.F;rw[Ag,Ag,Dy]
 have j:Cv [D.lst (AC (B.F k))]=some (.int k):=by
  unfold Cv;simp only[b]
 have a:∀l:List (List Al),(l.map Ao=[])=(l=[]):=λl=>propext List.map_eq_nil_iff
 simp! [aV,o,j,AR,D.bool?,a];have m:∀(x:Sl) (f:List D) (F:List (List (List Al))),fzS [Sl.bor (Ar A5 A4 sh ts),Sl.bor (Ao (ts.map Tr.pos)),Sl.bor (D.int d),Sl.own (SD (B.S k) f),Sl.own (D.lst (AC F)),x] 4=some [Sl.bor (Ar A5 A4 sh ts),Sl.bor (Ao (ts.map Tr.pos)),Sl.bor (D.int d),Sl.own (SD (B.S k) f),Sl.bor (D.fl (AC F)),x]:=λx f F=>by
  show (DR (D.lst (AC F))).map _=_;unfold DR;simp only[bu,if_true];rfl
 have v:fzS [Sl.bor (Ar A5 A4 sh ts),Sl.bor (Ao (ts.map Tr.pos)),Sl.bor (D.int d),Sl.own (SD (B.S k) f),Sl.own (D.lst (AC (B.F k))),Sl.own (D.lst ((B.L k).map Ao))] 5=some [Sl.bor (Ar A5 A4 sh ts),Sl.bor (Ao (ts.map Tr.pos)),Sl.bor (D.int d),Sl.own (SD (B.S k) f),Sl.own (D.lst (AC (B.F k))),Sl.bor (D.fl ((B.L k).map Ao))]:=by
  show (DR (D.lst ((B.L k).map Ao))).map _=_;unfold DR;simp only[bD,if_true];rfl
 by_cases j:B.L k=[]
 ·rw[if_neg (by rw[az j];decide)]
  refine y _ ?_;simp_all!;simp! [aV,o,D.bool?,a];rw[if_neg (by rw[az j];decide)];with_reducible refine hN_ _ _ ?_
  refine e7.mpr {_,m _ _ _,?_};simp! [lJ,lI];refine{_,if_pos (h6 _),_,if_pos g,?_};rewrite [mC];simp!;exact p k k f {c,.inl ⟨j,rfl,u⟩} r q g
 ·rw[if_pos (by rw[aw j];rfl)]
  by_cases r:k<d
  ·rw[if_pos (az 'o')]
   simp_all!;refine e7.mpr {_,v,?_};simp! [Bj,bu];refine{_,bz (cU _) (by rw[b];omega),?_};simp! [sH];refine{SD (B.S k) f,by unfold FP;exact if_pos g,by rw[uB,cU];rfl,'z',s q g λe r u=>?_};rw[if_pos (show D.flat (D.lst ((B.L (k+1)).map Ao))=true from bD _)];refine z _ _ {k+1,e,by rw[Bf.F_succ];unfold AC;rw[BG];rfl,'o',λi h=>?_,r,u} ?_
   ·by_cases e:i=k
    ·subst e;exact j
    ·exact c i 'o'
   ·show 100-(AC (B.F k)++[D.fl ((B.L k).map Ao)]).length<100-(AC (B.F k)).length
    rw[A8,b];show 100-(k+1)<100-k;omega
  ·rw[if_neg (by rw[aw 'o'];decide)]
   have e:k=d:=by omega
   subst e;refine y _ ?_;simp_all!;simp! [aV,o,D.bool?,a];rw[if_pos (by rw[aw j];rfl)];refine e7.mpr {_,v,?_};simp! [Bj,bu];refine{_,bz (cU _) (by rw[b];omega),?_};simp!;rewrite [show AC (B.F k)++[D.fl ((B.L k).map Ao)]=AC (B.F (k+1)) by rw[Bf.F_succ];unfold AC;rw[BG];rfl];refine e7.mpr {_,m _ _ _,?_};simp! [lJ,lI];refine{_,if_pos (h6 _),_,if_pos g,?_};rewrite [mC];simp!;have a:∀i,i<k+1->B.L i≠[]:=λi h=>by
    by_cases e:i=k
    ·subst e;exact j
    ·exact c i 'o'
   exact p (k+1) k f {a,.inr ⟨rfl,rfl⟩} (n _ a) q g
def Ji:List D->Ap Unit D:=Bv 5 3 (yr1 Jg).1
def uF{a:Nat}{Q:D->Unit->Prop}{E:AG->Unit->Prop}(e:Bc A5 A4 sh ts)(d:CY A5 A4 ts<=90)(c:∀N k,Jh (Bw A5 A4 sh ts) a N k->N<=90->Q (.fl (AC ((Bw A5 A4 sh ts).F N))) ()) :
 Aa (Ji [Ar A5 A4 sh ts,Ai ts,.int a]) Q E:=by
 refine aE rfl 'z' ?_;unfold yr1;dsimp only;simp_all!;simp!;refine uE e d λN k f b a e d=>?_
 simp! [d];exact{_,if_pos (h6 _),c N k b a}
end
def Jj:List D->Dr->Ap Dr D:=El 7 1 (zx4 CV FQ).1
def uG(h:l.length<=127):HD [.lst (l.map Ah)]=some (.lst ((CH l).map Ah)):=by
 show (DL (l.map CW)).bind (λa=>if a.length<128 then some (D.lst ((CH a).map CW)) else none)=_;rw[gO,Option.bind_some,if_pos 'o'];rfl
instance gap(f y:Int):Int:=8*((y / 2+f) % 2)
def G7(f y:Int):List Al:=((List.range 9).filter λx:Nat=>decide ((x:Int)≠gap f y)).map λx:Nat=>((x:Int),y)
def BW(f:Int)(k:Nat):List Al:=(([1,3,5,7]:List Int).take k).flatMap (G7 f)
def uH:(CH (BW 0 4)).Sublist (AL 9 9 (0,0)):=by decide +kernel
def uI:(CH (BW 1 4)).Sublist (AL 9 9 (0,0)):=by decide +kernel
def mD(f:Int)(k:Nat):(BW f k).length<=36:=by
 have b:∀y,(G7 f y).length<=9:=λy=>by
  unfold G7;rw[Ag];exact Az (FU _ _) (by rw[Dy];omega)
 have c:∀l:List Int,(l.flatMap (G7 f)).length<=9*l.length:=λl=>by
  induction l with
  | nil=>simp
  | cons a l ih=>rw[List.flatMap_cons,A8,B4];have:=b a;omega
 have d:(([1,3,5,7]:List Int).take k).length<=4:=by rw[C7];exact Nat.min_le_right _ _
 exact Az (c _) 'o'
def uJ{st:Dr}{Q:D->Dr->Prop}{E:AG->Dr->Prop}(hs:st.2<2 ^ 38)(hq:∀B t o,Bc 9 9 B [t]->CY 9 9 [t]<=81->o.2<=st.2+4->Q (.tup [Ar 9 9 B [t],Ai [t]]) o):Aa (Jj [] st) Q E:=by
 refine dD rfl 'z' ?_;unfold zx4;dsimp only;simp_all!;simp! [aV];simp_all!;simp!;refine ay 'z' 'z' 'o' λf st1 a1 b1 c1=>?_
 simp!;refine cw (λZ A=>∃(O R:Sl) (k:Nat),(k=0\/k=4)/\Z=[Sl.hnd,.own (.lst ((BW f k).map Ah)),.bor (.int f),O,R,.no,.no]/\A.2<=st.2+2) (λP hP=>?_) λZ A u=>?_
 ·simp!
  refine ay 'z' 'z' 'o' λv A a2 b2 c2=>?_
  simp! [AR];split
  ·rewrite [cP ah ah ah ah]
   simp!;refine aL (λi Z o=>∃(O R:Sl),Z=[Sl.hnd,.own (.lst ((BW f i).map Ah)),.bor (.int f),O,R,.no,.no]/\o=A) 0 {_,_,rfl,rfl} (λi e Z o U u P2 pn=>?_) λZ o u=>?_
   ·obtain⟨O,R,Y,es⟩:=u
    obtain⟨y,ey,hy,hi,h0,h8⟩:∃y:Int,e=.int y/\([1,3,5,7]:List Int)[i]?=some y/\i<4/\0<y/\y<8:=by
     rcases i with _ | _ | _ | _ | i
     ·cases U;exact{1,rfl,rfl,'z','z','z'}
     ·cases U;exact{3,rfl,rfl,'z','z','z'}
     ·cases U;exact{5,rfl,rfl,'z','z','z'}
     ·cases U;exact{7,rfl,rfl,'z','z','z'}
     ·simp at U
    subst Y es ey;refine{_,rfl,?_};simp_all!;have cd:F2 y 2:=by unfold F2;omega
    have cm:DJ 8 ((y / 2+f) % 2):=.inr {'o','o'};simp! [iOp,BO,AR,if_pos cd,show (0:Int)<2 by decide,ff cm];simp! [Bj,al ax];rw[bE 'o' 'o'];refine cI (λn r Z b=>∃x,r=((((List.range n).filter λx:Nat=>decide ((x:Int)≠gap f y)).map λx:Nat=>((x:Int),y))).map Ah/\Z=[x,.bor (.int y),.bor (.int (gap f y))]/\b=o) 0 {_,rfl,rfl,rfl} (λj d r Z b C u=>?_) λr Z b u=>?_
    ·obtain⟨x,J,M,N⟩:=u
     obtain⟨rfl,hj⟩:=bt C;subst J M N;rw[Ay] at *;refine{_,rfl,?_};simp! [Bq,D.dep,D.eqq,AE,BJ];have fl:(((List.range j).filter λx:Nat=>decide ((x:Int)≠gap f y))).length<=9:=Az (FU _ _) (by rw[Dy];omega);by_cases hg:(j:Int)=gap f y
     ·rw[if_neg (by simp[hg])]
      exact{_,by rw[FX,List.filter_append];simp[hg],rfl}
     ·rw[if_pos (by simpa using hg),aR ah ah]
      simp!;refine{lt_size (by rw[Ag,Ag];omega),_,?_,rfl};rw[FX,List.filter_append];simp[hg,Ah]
    ·obtain⟨x,J,M,N⟩:=u
     subst J M N;have ll:(BW f i).length<=36:=mD f i;rw[Ay,br];have fl:(((List.range 9).filter λx:Nat=>decide ((x:Int)≠gap f y))).length<=9:=Az (FU _ _) (by rw[Dy];omega);refine{_,dQ (al ax _) (by rw[Ag,Ag,Ag];show _+(((List.range 9).filter λx:Nat=>decide ((x:Int)≠gap f y))).length<=1000;omega),?_};have el:BW f (0+i+1)=BW f i++G7 f y:=by
      unfold BW;rw[Ay,Cy,hy,Ft];simp
     refine pn _ _ {.bor (.int y),.bor (.int (gap f y)),?_,rfl};rw[el,BG];rfl
   ·obtain⟨O,R,Y,es⟩:=u
    subst Y es;exact hP _ _ {_,_,4,.inr rfl,rfl,'o'}
  ·exact hP _ _ {_,_,0,.inl rfl,rfl,'o'}
 ·obtain⟨O,R,k,hk,Y,t2⟩:=u
  subst Y;simp_all!;simp! [cP,aR];refine dR (w:=9) (h:=9) (ways:="none") (s:=0) (p:=(0,0)) 'z' 'z' 'z' 'z' ?_;simp! [al ax];refine cI (λn r Z b=>∃x,r=(((AL 9 9 (0,0)).take n).filter λc=>!decide (c∈BW f k)).map Ah/\Z=[x,.bor (.lst ((BW f k).map Ah))]/\b=A) 0 {_,rfl,rfl,rfl} (λj d r Z b C u=>?_) λr Z b u=>?_
  ·obtain⟨x,J,M,N⟩:=u
   rw[AT] at C;cases q:(AL 9 9 (0,0))[j]? with
   | none=>rw[q] at C;cases C
   | some c=>
     rw[q] at C;cases C;subst J M N;have tk:(AL 9 9 (0,0)).take (j+1)=(AL 9 9 (0,0)).take j++[c]:=by rw[Cy,q];rfl
     have fl:(((AL 9 9 (0,0)).take j).filter λc=>!decide (c∈BW f k)).length<=81:=Az (FU _ _) (by rw[C7];exact Az (Nat.min_le_right _ _) (bF (w:=9) (h:=9) 'z' 'z'));rw[Ay] at *;refine{_,rfl,?_};simp! [hE.2];by_cases I:c∈BW f k
     ·rw[if_neg (by rw[az I];decide)]
      exact{_,by rw[tk,List.filter_append];simp[I],rfl}
     ·rw[if_pos (by rw[aw I];rfl)]
      refine{ax c,lt_size (by rw[Ag];omega),_,?_,rfl};rw[tk,List.filter_append];simp[I]
  ·obtain⟨x,J,M,N⟩:=u
   subst J M N;rw[Ay,Ag,C6];simp! [al ax];have cl81:((AL 9 9 (0,0)).filter λc=>!decide (c∈BW f k)).length<=81:=Az (FU _ _) (bF (w:=9) (h:=9) 'z' 'z');have W:f=0\/f=1:=by omega
   have cpos:0<((AL 9 9 (0,0)).filter λc=>!decide (c∈BW f k)).length:=by
    refine List.length_pos_of_mem (a:=(4,0)) ?_;rcases hk with rfl | rfl<;>rcases W with rfl | rfl<;>decide +kernel
   have shs:(CH (BW f k)).Sublist (AL 9 9 (0,0)):=by
    rcases hk with rfl | rfl
    ·exact List.nil_sublist _
    ·rcases W with rfl | rfl
     ·exact uH
     ·exact uI
   have G:∀c∈(AL 9 9 (0,0)).filter λc=>!decide (c∈BW f k),c∈AL 9 9 (0,0)/\c∉CH (BW f k):=λc I=>by
    have:=List.mem_filter.mp I;exact{this.1,λz=>by simpa [(gM _).mem_iff.mp z] using this.2}
   generalize ((AL 9 9 (0,0)).filter λc=>!decide (c∈BW f k))=cells at cl81 cpos G;have lc:Cv [.lst (cells.map Ah)]=some (.int cells.length):=by unfold Cv;simp
   simp_all!;simp! [lc];refine ay 'o' 'o' 'o' λv st3 a3 b3 c3=>?_
   obtain⟨d,C,ed⟩:=dG (l:=cells.map Ah) (al ax _) a3 (by rw[Ag];exact b3);obtain⟨p,hp,rfl⟩:=B7.mp C;rw[ed];have pf:(Ah p).flat=false:=rfl;obtain⟨hp1,T⟩:=G p hp;simp! [pf];have sl:HD [.lst ((BW f k).map Ah)]=some (.lst ((CH (BW f k)).map Ah)):=uG (Az (mD f k) 'z');rewrite [sl];simp! [FK,al ax];refine ay 'z' 'z' 'o' λg st4 a4 b4 c4=>?_
   have sub:=shs;generalize CH (BW f k)=B at sub T;have ot:CD [D.int 1,D.int 1,D.str "any",D.int g]=some (kd 1 1 "any" g):=cP ah ah imm_str ah;have ot1:CD [kd 1 1 "any" g]=some (D.tup [kd 1 1 "any" g]):=cJ (by simp only[D.immL,hB];rfl) 'd';have EJ:FR 9 9 B ⟨1,1,"any",g,p.1,p.2⟩:=by
    have m:=bX.mp hp1;refine{by show (1:Int)<=1;omega,by show (1:Int)<=1;omega,by show 0<=p.1;omega,by show p.1+1<=9;omega,by show 0<=p.2;omega,by show p.2+1<=9;omega,.inl rfl,by show g=0\/g=1\/g=-1;omega,λc I=>?_};have m2:=bX.mp (show c∈AL 1 1 (p.1,p.2) from I);have:c=p:=Prod.ext 'o' 'o';rw[this];exact T
   have ok:Bc 9 9 B [⟨1,1,"any",g,p.1,p.2⟩]:={'z','z','z','z',sub,'d',λt ht=>by rw[Bz.mp ht];exact EJ,Hc _ _};have im:D.immL [D.int 9,D.int 9,D.tup (List.map Ah B),D.tup [kd 1 1 "any" g]]=true:=by
    simp only[D.immL,am,ah,hB,al ax,EG]
   have ot2:CD [D.int 9,D.int 9,D.tup (List.map Ah B),D.tup [kd 1 1 "any" g]]=some (Ar 9 9 B [⟨1,1,"any",g,p.1,p.2⟩]):=cJ im 'd';have ot3:CD [Ah p]=some (Ai [⟨1,1,"any",g,p.1,p.2⟩]):=cJ (by simp only[D.immL,ax];rfl) 'd';have hi:(Ar 9 9 B [⟨1,1,"any",g,p.1,p.2⟩]).imm=true:=by
    unfold Ar;simp only[D.immL,am,ah,al bY,al ax,EG]
   have si:(Ai [⟨1,1,"any",g,p.1,p.2⟩]).imm=true:=by
    show D.immL _=true;exact al bc _
   rewrite [ot];simp!;rewrite [ot1];simp!;rewrite [ot2];simp!;rewrite [ot3];simp!;rewrite [aR hi si];simp!;exact{.inl (by simp only[am,D.immL,hi,si,EG]),hq _ _ _ ok (by show CI 9 9 1 1 "any" * 1<=81;decide) 'o'}
section
variable{i:Nat}{B:Bf (List Al)}{N:Nat}
abbrev FD(W:List (List Al)):D:=SD W (W.map λ_=>.bl true)
def uK(h:p∉W):AS (Ei p) (.bl true) (W.map Ao) (W.map λ_=>.bl true)=((W++[p]).map Ao,(W++[p]).map λ_=>.bl true):=by
 rw[mz 'd' h,BG (f:=λ_=>D.bl true)];rfl
def uL(h:Z[i]?=some (.own (FD W))):DZ Z i=some (W.map Ao,W.map λ_=>.bl true):=by
 unfold DZ;rw[h];exact if_pos (al (λ_=>aI) W)
end
def Jk:List D->Ap Unit D:=Bv 8 2 (zs6 HJ).1
instance muR(Z:Ae):Nat:=match (Z[3]?:Option Sl) with
 | some (.own (.lst l))=>100-l.length
 | _=>0
def dZ{B:Bf (List Al)}{n:Nat}:(AC (B.F n)).length=n:=by unfold AC Bf.F;rw[Ag,Ag,Dy]
def ic{B:Bf (List Al)}{k:Nat}:AC (B.F k)++[.fl ((B.L k).map Ao)]=AC (B.F (k+1)):=by rw[Bf.F_succ];unfold AC;rw[BG];rfl
def uM{B:Bf (List Al)}{k:Nat}:Ba (.lst (AC (B.F (k+1)))) (.int (-1))=some (.fl ((B.L k).map Ao)):=by
 show im (BD (AC (B.F (k+1))) (-1))=_;rw[<-ic,oj];exact if_pos (cU _)
section
variable{A5 A4:Int}
def uN{Q:D->Unit->Prop}{E:AG->Unit->Prop}(C:Bc A5 A4 b a)(m:CY A5 A4 a<=90)(s:∀N,(Bw A5 A4 b a).L N=[]->(∀i,i<N->(Bw A5 A4 b a).L i≠[])->N<=90->Q (.lst (AC ((Bw A5 A4 b a).F N))) ()) :
 Aa (Jk [Ar A5 A4 b a,Ai a]) Q E:=by
 refine aE rfl 'z' ?_;unfold zs6;dsimp only;simp_all!;rewrite [bC];simp! [k9];have j:DY [Ao (a.map Tr.pos)]=some (.lst [Ao (a.map Tr.pos)]):=bi (bD [a.map Tr.pos]) 'd';refine{_,cS _,?_};rewrite [hX];obtain⟨B,c⟩:∃B,B=Bw A5 A4 b a:={_,rfl};have d:∀n,∀p∈B.S n,Gd A5 A4 b a p:=λn=>by rw[c];exact gdS C
 have o:∀n,∀p∈B.L n,Gd A5 A4 b a p:=λn=>by rw[c];exact gdL C
 have Q:∀us,C2 a us->B.nb 'm'=(Br A5 A4 b us us.length).map λr=>r.ts.map Tr.pos:=λus h=>by rw[c];exact hV h
 have R:∀p q,Gd A5 A4 b a p->q∈B.nb p->Gd A5 A4 b a q:=λp q=>by rw[c];exact gd1
 have E:∀l,B.srt l=DM Ts.stO l:=λl=>by rw[c];rfl
 have g:B.L 0=[a.map Tr.pos]:=by rw[c];rfl
 have e:B.S 0=[a.map Tr.pos]:=by rw[c];rfl
 rw[<-c] at s;clear c;have f:∀n,(B.S n).length<=90:=λn=>(Gd.few C m (Bf.nd n) (d n)).1
 have c:∀k,(∀i,i<k->B.L i≠[])->k<=90:=λk h=>by
  cases k with
  | zero=>omega
  | succ k=>exact Az (Bf.le λi T=>h i 'o') (f k)
 have M:∀n,∀es:List (List Al),(∀p∈es,Gd A5 A4 b a p)->(B.S n++AF (B.S n) es).length<=90:=λn es h=>(Gd.few C m (cz (Bf.nd n)) λp m=>by
  rcases BP.mp m with z | z
  ·exact d n p z
  ·exact h p (cy.mp z).1).1
 simp_all!;have I:DR (.lst [Ao (a.map Tr.pos)])=some (.fl [Ao (a.map Tr.pos)]):=if_pos (bD [a.map Tr.pos]);have d:DY [.fl [Ao (a.map Tr.pos)]]=some (.lst (AC (B.F 1))):=by
  rw[show AC (B.F 1)=[.fl ((B.L 0).map Ao)] from rfl,g];exact bi (bu [[a.map Tr.pos]]) 'd'
 simp! [lf,j,I,d,bu];simp_all!;have h:-(1:Int)=-1:=rfl;refine cO (λZ j=>∃(k:Nat) (f A d g:Sl),Z=[Sl.bor (Ar A5 A4 b a),.bor (Ao (a.map Tr.pos)),.own (FD (B.S k)),.own (.lst (AC (B.F (k+1)))),f,A,d,g]/\∀i,i<k->B.L i≠[]) (λZ _=>muR Z) {0,_,_,_,_,by rw[e];rfl,λi T=>by omega} λZ j n P e Y u v=>?_
 obtain⟨k,f,A,d,g,rfl,u⟩:=n;have j:=c k u;have f:=ml (neg:=true) (l:=(B.L k).map Ao) (Az (h7 _) 'z');have e:Bq true (.fl ((B.L k).map Ao)) (.lst [])=some (.bl (!decide ((B.L k).map Ao=[]))):=f;have c:∀l:List (List Al),(l.map Ao=[])=(l=[]):=λl=>propext List.map_eq_nil_iff
 have f:=uM (B:=B) (k:=k);simp! [aV,h,f,e,D.bool?,c];by_cases G:B.L k=[]
 ·rw[if_neg (by rw[az G];decide)]
  refine v _ ?_;have c:Hv none (some (-1)) (.lst (AC (B.F (k+1))))=some (.lst (AC (B.F k))):=by
   have e:HT.sIx (k+1) (k+1) (some (-1))=k:=by
    show ((-1)+((k+1:Nat):Int)).toNat=k;omega
   show (if D.immL (AC (B.F (k+1)))=true then some (D.lst (L2.cutD (AC (B.F (k+1))) none (some (-1)))) else none)=_;rw[if_pos (bu _)];unfold L2.cutD;rw[HT.sIx_none,Nat.sub_zero,F1,dZ,e,<-ic,List.take_left' dZ]
  simp! [h,c,bu];exact s k G u j
 ·rw[if_pos (by rw[aw G];rfl)]
  simp_all!;simp! [aV];simp_all!;simp! [h,f,D.fl?];refine aL (λi Z f=>∃(A d g:Sl),Z=[Sl.bor (Ar A5 A4 b a),.bor (Ao (a.map Tr.pos)),.own (FD (B.S k++AF (B.S k) (((B.L k).take i).flatMap B.nb))),.own (.lst (AC (B.F (k+1)))),.own (.lst ((AF (B.S k) (((B.L k).take i).flatMap B.nb)).map Ao)),A,d,g]) 0 {_,_,_,by rw[show AF (B.S k) (((B.L k).take 0).flatMap B.nb)=[] from rfl,Ck];rfl} (λi e Z f h n P2 y=>?_) λZ f n=>?_
  ·obtain⟨A,d,g,x⟩:=n
   rw[AT] at h;cases q:(B.L k)[i]? with
   | none=>rw[q] at h;cases h
   | some p=>
     rw[q] at h;cases h;subst x;obtain⟨us,rfl,j,s⟩:=o k p (BI q);have P:((B.L k).take (0+i+1)).flatMap B.nb=((B.L k).take (0+i)).flatMap B.nb++B.nb 'm':=by rw[Ay,Cy,q,Ft];simp
     have U:∀q∈((B.L k).take (0+i)).flatMap B.nb,Gd A5 A4 b a q:=λO c=>by
      obtain⟨p',v,z⟩:=EE.mp c;exact R p' O (o k p' (GA v)) z
     have J:∀q∈B.nb 'm',Gd A5 A4 b a q:=λO c=>R _ O (o k _ (BI q)) c
     rw[P] at y;generalize ((B.L k).take (0+i)).flatMap B.nb=es at U y;clear P;refine{_,rfl,?_};simp!;rewrite [<-bC (us:=us),<-bB s.kind];with_reducible refine ui j λc=>?_
     have q:=Q us s;generalize Br A5 A4 b us us.length=rows at c q;simp! [al bN];refine aL (λj Z f=>∃(d g:Sl),Z=[Sl.bor (Ar A5 A4 b us),.bor (Ao (a.map Tr.pos)),.own (FD (B.S k++AF (B.S k) (es++(B.nb 'm').take j))),.own (.lst (AC (B.F (k+1)))),.own (.lst ((AF (B.S k) (es++(B.nb 'm').take j)).map Ao)),.bor (Ai us),d,g]) 0 {d,g,'d'} (λj e Z f h n O c=>?_) λZ f n=>?_
     ·obtain⟨d,g,x⟩:=n
      rw[AT] at h;cases O:rows[j]? with
      | none=>rw[O] at h;cases h
      | some r=>
        rw[O] at h;cases h;subst x;have P:(B.nb 'm').take (0+j+1)=(B.nb 'm').take (0+j)++[r.ts.map Tr.pos]:=by rw[Ay,Cy,q,AT,O];rfl
        have f:∀p∈es++(B.nb 'm').take (0+j),Gd A5 A4 b a p:=λp m=>by
         rcases BP.mp m with z | z
         ·exact U p z
         ·exact J p (GA z)
        rw[P,<-BB,mq] at c;have h:=M k _ f;generalize es++(B.nb 'm').take (0+j)=es2 at f c h;generalize j:AF (B.S k) es2=N at c h;refine{_,rfl,?_};rewrite [bC (us:=r.ts)];have j:=mB (W:=B.S k++N) (vs:=(B.S k++N).map λ_=>.bl true) (p:=r.ts.map Tr.pos) true (by rw[Ag]);simp! [j];by_cases f:r.ts.map Tr.pos∈B.S k++N
        ·rw[if_neg (by rw[az f];decide)]
         rw[if_pos f,Ck] at c;exact c _ _ {_,_,rfl}
        ·rw[if_pos (by rw[aw f];rfl)]
         rw[if_neg f] at c;simp_all!;simp!;refine{_,_,uL rfl,_,cS _,by rw[Ag];exact lt_size 'o',?_};rewrite [uK f];have j:N.length<=90:=by rw[A8] at h;omega
         simp! [Bj,bD];refine{_,bz (dY _) (by rw[Ag];omega),?_};simp!;exact c _ _ {_,_,by rw[BG (l₁:=N),<-BB];rfl}
     ·obtain⟨d,g,x⟩:=n
      subst x;have c:0+(rows.map Row.data).length=(B.nb 'm').length:=by rw[q,Ag,Ag,Ay]
      rw[c,C6];exact y _ _ {_,_,_,by rw[bB s.kind]}
  ·obtain⟨A,d,g,x⟩:=n
   subst x;rw[Ay,Ag,C6];have c:=Gd.few C m (l:=AF (B.S k) ((B.L k).flatMap B.nb)) (Fw.mp (cz (Bf.nd k))).2.1 λp m=>by
    obtain⟨p',v,z⟩:=EE.mp (cy.mp m).1;exact R p' p (o k p' v) z
   have d:Gj [D.lst ((AF (B.S k) ((B.L k).flatMap B.nb)).map Ao)]=some (.lst ((B.L (k+1)).map Ao)):=by
    unfold Gj;show (ES ((AF (B.S k) ((B.L k).flatMap B.nb)).map Ao)).bind _=_;rw[gY,Option.bind_some,if_pos c.2];show _=some (D.lst ((B.srt (AF (B.S k) ((B.L k).flatMap B.nb))).map Ao));rw[E]
   have I:DR (.lst ((B.L (k+1)).map Ao))=some (.fl ((B.L (k+1)).map Ao)):=if_pos (bD _);simp! [lf,d,I,Bj,bu];refine{_,bz (cU _) (by rw[dZ];omega),?_};rewrite [ic];refine Y _ _ {k+1,_,_,_,_,rfl,λi T=>?_} ?_
   ·by_cases e:i=k
    ·subst e;exact G
    ·exact u i 'o'
   ·show 100-(AC (B.F (k+1+1))).length<100-(AC (B.F (k+1))).length
    rw[dZ,dZ];omega
end
def cA{i:Int}(a:-5000000000000000<=i)(b:i<=5000000000000000):aH (.int i)=true:=by
 show decide (i.natAbs.log2<1920)=true;refine az ?_;by_cases h:i.natAbs=0
 ·rw[h];decide
 ·exact AW ((Nat.log2_lt h).mpr (show i.natAbs<2 ^ 60 by omega)) 'z'
theorem fo{α:Type}{f:α->D}:∀{l:List α},(∀a∈l,aH (f a)=true)->bn (l.map f)=true
 | [],_=>rfl
 | a::l,h=>by
   show (aH (f a)&&bn (l.map f))=true;rw[h a 'd',fo λb c=>h b (by simp[c])];rfl
theorem fq{α:Type}{f:α->D}{k:Nat}:∀{l:List α},(∀a∈l,szD (f a)+2<=k)->bd (l.map f)<=k*l.length
 | [],_=>AE _
 | a::l,h=>by
   show szD (f a)+2+bd (l.map f)<=k*(l.length+1);have b:=h a 'd';have c:=fq (l:=l) λb a=>h b (by simp[a])
   rw[Nat.mul_succ];omega
theorem fu{α:Type}{f:α->D}{k:Nat}:∀{l:List α},(∀a∈l,dpD (f a)<=k)->bo (l.map f)<=k
 | [],_=>AE _
 | a::l,h=>Nat.max_le.mpr {h a 'd',fu (l:=l) λb a=>h b (by simp[a])}
def mE(b:0<=c.1)(a:c.1<=9)(b:0<=c.2)(a:c.2<=9):aH (Ah c)=true:=by
 show (aH (.int c.1)&&(aH (.int c.2)&&true))=true;rw[cA 'o' 'o',cA 'o' 'o'];rfl
def mF{f d:Int}(b:Bc f d g e)(c:t∈e):aH t.kind=true/\szD t.kind+2<=6000:=by
 have a:=b.tr t c;have:=a.w1;have:=a.h1;have:=a.xw;have:=a.yh;have:=a.x0;have:=a.y0;have:=b.w9;have:=b.h9;have c:=a.st;have b:aH (.int t.s)=true:=by rcases c with r | r | r<;>rw[r]<;>exact cA 'z' 'z'
 constructor
 ·show (aH (.int t.w)&&(aH (.int t.h)&&(true&&(aH (.int t.s)&&true))))=true
  rw[cA (i:=t.w) 'o' 'o',cA (i:=t.h) 'o' 'o',b];rfl
 ·have c:(reprText t.ways).length<=10:=by
   rcases a.ways with r | r | r | r<;>rw[r]<;>decide +kernel
  show 1921+2+(1921+2+((reprText t.ways).length+2+(1921+2+0)))+3+2<=6000;omega
def uO{g h:Int}{d:List Al}{a:List Tr}(b:Bc g h d a):E6 [Ar g h d a,Ai a]:=by
 have e:d.length<=81:=Az b.sub.length_le (bF b.w9 b.h9);have e:=b.few;have f:=b.w1;have e:=b.w9;have f:=b.h1;have e:=b.h9;have l:∀c∈d,aH (Ah c)=true:=λc n=>by
  obtain⟨m,j,f,e⟩:=bX.mp (b.sub.subset n);have m:0<=c.1:=m;have j:c.1<0+g:=j;have f:0<=c.2:=f;have e:c.2<0+h:=e;exact mE 'o' 'o' 'o' 'o'
 have j:∀t∈a,aH t.place=true:=λt f=>by
  have e:=b.tr t f;have:=e.w1;have:=e.h1;have:=e.xw;have:=e.yh;have:=e.x0;have:=e.y0;exact mE (c:=(t.x,t.y)) (by show 0<=t.x;omega) (by show t.x<=9;omega) (by show 0<=t.y;omega) (by show t.y<=9;omega)
 refine{?_,?_,?_,?_}
 ·simp only[Ar,Ai,D.immL,D.imm,al ax,al bY,al bc,EG]
 ·show ((aH (.int g)&&(aH (.int h)&&(bn (d.map Ah)&&(bn (a.map Tr.kind)&&true))))&&(bn (a.map Tr.place)&&true))=true
  rw[cA (i:=g) 'o' 'o',cA (i:=h) 'o' 'o',fo l,fo j,fo λt f=>(mF b f).1];rfl
 ·have j:bo (d.map Ah)<=1:=fu λc _=>by show max 0 (max 0 0)+1<=1;decide
  have l:bo (a.map Tr.place)<=1:=fu λc _=>by show max 0 (max 0 0)+1<=1;decide
  have e:bo (a.map Tr.kind)<=1:=fu λc _=>by show max 0 (max 0 (max 0 (max 0 0)))+1<=1;decide
  show max (max 0 (max 0 (max (bo (d.map Ah)+1) (max (bo (a.map Tr.kind)+1) 0)))+1) (max (bo (a.map Tr.place)+1) 0)<60;omega
 ·have j:bd (d.map Ah)<=4000*d.length:=fq λc _=>by show 1921+2+(1921+2+0)+3+2<=4000;decide
  have l:bd (a.map Tr.place)<=4000*a.length:=fq λc _=>by show 1921+2+(1921+2+0)+3+2<=4000;decide
  have e:bd (a.map Tr.kind)<=6000*a.length:=fq λt f=>(mF b f).2
  have e:sizeLine=16777216:=by decide
  show (1921+2+(1921+2+(bd (d.map Ah)+3+2+(bd (a.map Tr.kind)+3+2+0)))+3)+2+(bd (a.map Tr.place)+3+2+0)+3<=sizeLine;omega
section
variable{A5 A4:Int}{sh:List Al}{ts:List Tr}{B:Bf (List Al)}
def uP(h:p.length<=1000):(Ao p).lw=true:=ki (kh (f:=CW) (λc=>tm c) p) (by rw[Ag];exact h)
theorem fw{α:Type}{f:α->D}(h:∀a,(f a).tp=true):∀l:List α,D.tpL (l.map f)=true
 | []=>rfl
 | a::l=>by
   show ((f a).tp&&D.tpL (l.map f))=true;rw[h,fw h l];rfl
def uQ:(Ar A5 A4 sh ts).tp=true:=by
 show (true&&(true&&(D.tpL (sh.map Ah)&&(D.tpL (ts.map Tr.kind)&&true))))=true;rw[fw (λc=>rfl),fw (λt=>rfl)];rfl
def uS{m:Nat}:D.tpL [Ar A5 A4 sh ts,Ai ts,.int m]=true:=by
 rw[bC];show ((Ar A5 A4 sh ts).tp&&(D.tpL ((ts.map Tr.pos).map CW)&&true))=true;rw[uQ,fw (λc=>rfl)];rfl
def mG{a N c k:Nat}(e:Jh B a c k)(b:B.L N=[])(d:∀i,i<N->B.L i≠[]):c=min N (a+1):=by
 have f:c<=N:=by
  apply Classical.byContradiction;intro h;exact e.full N 'o' b
 rcases e.cut with⟨a,_,b⟩ | ⟨a,_⟩
 ·have:¬c < N:=λh=>d _ h a
  omega
 ·omega
def uT{N m:Nat}:(AC (B.F N)).take m=AC (B.F (min N m)):=by
 unfold AC Bf.F;rw[<-List.map_take,<-List.map_take,List.take_range,Nat.min_comm]
def uU{n:Nat}:AC (B.F (n+1))=.fl ((B.L 0).map Ao)::((List.range n).map λi=>B.L (i+1)).map λm=>D.fl (m.map Ao):=by
 unfold AC Bf.F;rw[List.range_succ_eq_map,BX,BX,Cz,Cz,Cz];rfl
def uV(h:∀m∈l,m.length<=1000/\∀p∈m,p.length<=1000):D.lwL (AC l)=true/\D.depL (AC l)<=3:=by
 refine{eS.mpr λd b=>?_,cq (f:=λm:List (List Al)=>D.fl (m.map Ao)) (n:=3) (λm=>FV (h7 m)) l};obtain⟨m,c,rfl⟩:=B7.mp b;have a:D.lwL (m.map Ao)=true:=eS.mpr λd b=>by
  obtain⟨p,e,rfl⟩:=B7.mp b;exact uP ((h m c).2 p e)
 have b:decide ((m.map Ao).length<=sizeLine)=true:=az (aU (by rw[Ag];exact(h m c).1));simp only[D.lw,a,b,EG]
def mH(h:∀m∈l,m.length<=1000/\∀p∈m,p.length<=1000)(e:l.length<=1000)(c:d=.lst (AC l)\/d=.fl (AC l))(q:Q (.bl true) ()):Aa (Et 5 [.fl (AC l),d]) Q E:=by
 have z:=uV h;have ih:∀x∈AC l,∀{Q:D->Unit->Prop} {E:AG->Unit->Prop},Q (.bl true) ()->Aa (Et 4 [x,x]) Q E:=λx a=>l5 4 (Cj (kg a) (Nat.lt_succ_of_le z.2)) (eS.mp z.1 x a)
 have b:(AC l).length<=sizeLine:=aU (by rw[Ag];exact e);rcases c with rfl | rfl<;>exact fg rfl rfl rfl rfl rfl rfl rfl rfl rfl ih b q
end
def uW(ns:List Int)(c:ns.length<=63):Aa ((vx9 CV IU Jj Jk Ji (Et 5)).1 (CL vm8.length) (E5 ns,0)) (λc _=>c=.rt (.bl true)) λ_ _=>False:=by
 unfold vx9;dsimp only;have g:CL vm8.length=[Sl.no,.hnd,.no,.no,.no,.no,.no,.no,.no]:=rfl;rw[g,ao];obtain⟨c,e,f⟩:∃c:Dr,(E5 ns,(0:Int))=c/\c.2=0:={_,rfl,rfl};rw[e];simp!;refine ay 'z' 'z' 'o' λe c f h g=>?_
 simp! [Bq,D.dep,D.eqq,AE,BJ];simp_all!;simp! [GN,eR,gt];generalize (e == 0)=B6;have c:∃m:Int,(if B6=true then D.int 24 else D.int 90)=.int m/\1<=m/\m<=90:=by
  split
  ·exact{_,rfl,'z','z'}
  ·exact{_,rfl,'z','z'}
 obtain⟨m,f,i,g⟩:=c;rw[f];refine tL 'o' i 'o' λj h g f c r s n=>?_
 have i:(Ar j h g f).flat=false:=rfl;have c:(Ai f).flat=false:=rfl;simp! [i,c];refine cw (λZ q=>∃(j h:Int) (g:List Al) (f:List Tr),Z=[Sl.no,.hnd,.bor (.bl B6),.bor (Ar j h g f),.bor (Ai f),.no,.no,.no,.no]/\Bc j h g f/\CY j h f<=90/\q.2<=600) (λP G=>?_) λZ q y=>?_
 ·simp!
  refine ay 'z' 'z' 'o' λo J U R T=>?_
  simp! [Bq,D.dep,D.eqq,AE,BJ];split
  ·refine uJ 'o' λg t C r s o=>?_
   have i:(Ar 9 9 g [t]).flat=false:=rfl;have c:(Ai [t]).flat=false:=rfl;simp! [i,c];exact G _ _ {_,_,_,_,rfl,r,'o','o'}
  ·exact G _ _ {_,_,_,_,rfl,r,'o','o'}
 ·clear i c r s n
  clear j h g f;obtain⟨j,h,g,f,x,r,s,n⟩:=y;subst x;simp_all!;simp!;refine uN r s λN E u c=>?_
  simp! [bu];have M:=λc=>@uF j h g f c
  have o:∀n,∀p∈(Bw j h g f).L n,Gd j h g f p:=λn=>gdL r
  have I:(Bw j h g f).L 0=[f.map Tr.pos]:=rfl;have A:∀n,∀m∈(Bw j h g f).F n,m.length<=90/\∀p∈m,p.length<=1000:=λn m v=>by
   obtain⟨i,_,rfl⟩:=B7.mp v;refine{(Gd.few r s (Fw.mp (by have:=Bf.flat_nd (B:=Bw j h g f) i;rw[Bf.F_succ,List.flatten_append] at this;simpa using this)).2.1 (o i)).1,λp z=>?_};obtain⟨us,rfl,O,_⟩:=o i p z;have:=O.few;rw[Ag];omega
  generalize Bw j h g f=B at E u M o I A;have z:∀n,∀m∈B.F n,m.length<=1000/\∀p∈m,p.length<=1000:=λn m v=>{Az (A n m v).1 'z',(A n m v).2}
  have o:∀n,(B.F n).length=n:=λn=>by unfold Bf.F;rw[Ag,Dy]
  have p:1<=N:=by
   cases N with
   | zero=>rw[I] at E;cases E
   | succ n=>omega
  simp_all!;have p:=uO r;have Q:Gf [Ar j h g f,Ai f]=some (.fl [Ar j h g f,Ai f]):=if_pos {p.1,aU 'd'};have O:FM [.fl [Ar j h g f,Ai f]]=some (.str (aD (.fl [Ar j h g f,Ai f])).shown):=if_pos p;generalize (aD (.fl [Ar j h g f,Ai f])).shown=text at O;simp! [Q,O];simp_all!;simp!;refine ay 'z' 'z' 'o' λe J U R T=>?_
  have p:Cv [D.lst (AC (B.F N))]=some (.int N):=by
   show some (D.int ((AC (B.F N)).length:Nat))=_;rw[Ag,o]
  simp! [p,AR];refine ay 'z' 'z' 'o' λp C A J R=>?_
  obtain⟨v,A,J⟩:∃v:List Nat,[D.int e,D.int ((N:Int)-1+p)]=v.map (λm:Nat=>D.int m)/\v.length=2:={[e.toNat,N-1+p.toNat],by
   show _=[D.int (e.toNat:Nat),D.int ((N-1+p.toNat:Nat))];rw[show ((e.toNat:Nat):Int)=e by omega,show ((N-1+p.toNat:Nat):Int)=(N:Int)-1+p by omega],rfl}
  have J:DY [D.int e,D.int ((N:Int)-1+p)]=some (.lst (v.map λm:Nat=>D.int m)):=by
   rw[A];exact bi (al (λ_=>ah) v) (by rw[Ag];omega)
  simp! [J,al (λ_=>ah)];refine aL (λi Z q=>∃J,Z=[Sl.no,.hnd,.bor (.bl B6),.bor (Ar j h g f),.bor (Ai f),.own (.lst (AC (B.F N))),.bor (.str text),J,.no]/\q=C) 0 {_,rfl,rfl} (λi e Z q p y P G=>?_) λZ q y=>?_
  ·obtain⟨J,x,es⟩:=y
   subst x es;have p:(v.map λm:Nat=>D.int m)[i]?=some e:=by rw[<-A];exact p
   rw[AT] at p;cases q:v[i]? with
   | none=>rw[q] at p;cases p
   | some c=>
     rw[q] at p;cases p;refine{_,rfl,?_};refine s7 (a:=Ar j h g f) (b:=Ai f) (d:=.int c) rfl rfl rfl {uS,by rw[DD];exact(by decide:8<9),'z'} ?_;refine M c r s λg k p h=>?_
     have i:=mG p E u;have j:1<=g:=by omega
     obtain⟨n,rfl⟩:∃n,g=n+1:={g - 1,'o'};refine{_,_,by rw[uU],{lt_size (by rw[I];simp),lt_size (by rw[Ag,Ag,Dy];omega)},?_};have m:Hv none (some ((c:Int)+1)) (.lst (AC (B.F N)))=some (.lst (AC (B.F (n+1)))):=by
      show (if D.immL (AC (B.F N))=true then some (D.lst (L2.cutD (AC (B.F N)) none (some ((c:Int)+1)))) else none)=_;rw[if_pos (bu _)];have e:L2.cutD (AC (B.F N)) none (some ((c:Int)+1))=(AC (B.F N)).take (c+1):=by
       unfold L2.cutD;rw[HT.sIx_none,Nat.sub_zero,F1,Ag,o];have e:HT.sIx N N (some ((c:Int)+1))=min (c+1) N:=by
        show min (((c:Int)+1).toNat) N=_;rw[show ((c:Int)+1).toNat=c+1 by omega]
       rw[e,List.take_eq_take_iff,Ag,o];omega
      rw[e,uT,<-i]
     have j:BO (.int (c:Int)) (.int 1)=some (.int ((c:Int)+1)):=rfl;simp! [j,m];refine mH (l:=B.F (n+1)) (z _) (by rw[o];omega) (.inl rfl) ?_;simp! [D.bool?];exact G _ _ {_,rfl,rfl}
  ·obtain⟨J,x,es⟩:=y
   subst x es;simp_all!;simp!;refine M 0 r s λg k p h=>?_
   have i:=mG p E u;have c:g=1:=by omega
   subst c;have g:AC (B.F 1)=[.fl [Ai f]]:=by
    show [D.fl ((B.L 0).map Ao)]=_;rw[I];rw[bC];rfl
   have c:Gf [Ai f]=some (.fl [Ai f]):=if_pos {by rw[bC];exact bD [f.map Tr.pos],aU 'd'};have e:Gf [.fl [Ai f]]=some (.fl (AC (B.F 1))):=by
    rw[<-g];exact if_pos {bu _,aU (by rw[g];simp)}
   simp! [c,e];refine mH (l:=B.F 1) (z _) (by rw[o];omega) (.inr rfl) ?_;simp! [D.bool?];have c:Bq false (.str text) (.str text)=some (.bl true):=by simp[Bq,D.dep,D.eqq]
   simp! [Q,O,c]
end K19
section
set_option maxHeartbeats 0
namespace K19
open L2
def uX(s:Stmt):dA s=FE s:=by cases s<;>rfl
def uY(s:Stmt):dB s=B1 s:=by cases s<;>rfl
def uZ(s:Stmt):dS s=AI s:=by cases s<;>rfl
def FnAt.to{K:FG}{x:Str}{i:Nat}(h:FnAt K x i):At K x (top i):=by
 obtain⟨f,a,g,l,c,kV,b,e,d,j,a,l,c,k⟩:=h;rw[uX,uY,uZ] at l;exact{f,_,a,oK (st:=top i) l c k}
def all_mk{l:PySem.W.OpenLaw}{w:World}{K:FG}{h:Heap}{g:Str->Option Value}{a:Addr}(X:K.In h)(G:h.Ns mainGlobals g)(c:g "law" = some (.ref a))(F:Facts K) :
 ∃P:FuncData,(∀(s:Shared) (v:Value),BindsTo s P {[v],[]} [("_law_script",v)])/\∀b:Heap,K.In b->b.Ns mainGlobals g->BS l.prog w K g b CX0 10 a P ["_law_script"] (spLaw K):=by
 cases F with
 | mk p o h_2 h_3 Z h_5 h_6 T Y U E d M C N O J i u B A m I Q n j y r R h a M5 K5 f L4 M6 L9 M7 M0 G8 M8 M9 N0 N2 J7 L5 K6 q N4 N5 J8 N6 M1 K7 M4 L6 K8 K9 L0 L1 L3 G6=>
 obtain⟨e,x,z,Fl⟩:=a.to;obtain⟨_,_,kV,dc,pm,an,cd,ct,_,rfl,_,_⟩:=Fl.ex;have e:=c.symm.trans (mg_of X G z);cases e;have a:=λ{x:Str} (z:nsIn K mainGlobals x=some none)=>mg_none_of X G z
 have c:Bn g:={a M5,a K5,a f,a L4,a M6,a L9,a M7,a M0,a G8,a M8,a M9,a N0,a N2,a J7,a L5,a K6,a q,a N4,a N5,a J8,a N6};have cs:Cst K g:={trivial,{_,mg_of X G M1},{_,mg_of X G K7},{_,mg_of X G M4},{_,mg_of X G L6,qT (p0:=(1,0)) (p1:=(0,1)) (p2:=(-1,0)) (p3:=(0,-1)) K8 K9 L0 L1 L3},{_,mg_of X G G6}};refine{fnOf "law" "law" (FE vk5) (B1 vk5) (AI vk5) .none kV dc pm an cd ct,λs v=>.of_eq rfl,λb _ _=>?_};have CB:Ce l.prog w K g b 1 "_law_begin" ["_law_script"] (Ix K):=g7 _ _ _ X G p.to λf P F=>s8 F c
 have e:=λp q=>g7 (sp:=spS (Ef p q) K CV) l.prog w b X G o.to λf P F=>s9 F c.len c.divmod
 have z:=aK l.prog w b X G h_2.to xq8 (yo4.2 _ _ _ _ _ c cs 0 );have a:=aK l.prog w b X G h_3.to zp9 (yj4.2 _ _ _ _ _ c cs 0 );have o:=aK l.prog w b X G Z.to zm5 ((yi3 GY).2 _ _ _ _ _ c cs 1 a.up);have v:=aK l.prog w b X G h_5.to wo6 (xy8.2 _ _ _ _ _ c cs 0 );have x:=aK l.prog w b X G h_6.to zw0 (zr4.2 _ _ _ _ _ c cs 0 );have Z:=aK l.prog w b X G T.to zt4 ((yq8 IY GY G0 IZ).2 _ _ _ _ _ c cs 1 v.up a.up x.up z.up);have v:=aK l.prog w b X G Y.to zf5 ((zo9 Ja).2 _ _ _ _ _ c cs 2 Z.up);have T:=aK l.prog w b X G U.to xq9 ((yq7 G4 GZ).2 _ _ _ _ _ c cs 3 v.up o.up);have a:=aK l.prog w b X G E.to zo6 ((zs4 G0).2 _ _ _ _ _ c cs 1 x.up);have z:=aK l.prog w b X G d.to zf4 ((zo5 G4 Jc Jb).2 _ _ _ _ _ c cs 4 v.up a.up T.up);have d:=aK l.prog w b X G M.to zd6 ((zi9 GZ Jd).2 _ _ _ _ _ c cs 5 o.up z.up);have v:=λa=>dO (W:=CO K a) l.prog w b X G C.to lL (IK.2 _ _ _ _ _ a c cs 0 )
 have o:=λa=>s5 (W:=CO K a) l.prog w b X G N.to lM ((IM Je Jf).2 _ _ _ _ _ a c cs 6 d.up (v a).up)
 have x:=aK l.prog w b X G O.to lO ((IP lbF).2 _ _ _ _ _ c cs 7 (λa=>(o a).up));have v:=aK l.prog w b X G J.to yf5 ((yr1 Jg).2 _ _ _ _ _ c cs 8 x.up);have d:=aK l.prog w b X G i.to zm8 (zp4.2 _ _ _ _ _ c cs 0 );have x:=aK l.prog w b X G u.to zt6 (zp3.2 _ _ _ _ _ c cs 0 );have a:=λp q=>dO l.prog w b X G B.to zy2 ((zv0 CV).2 _ _ _ _ _ p q c cs 1 (e p q).up)
 have o:=λp q=>dO l.prog w b X G A.to zd8 ((zx5 CV).2 _ _ _ _ _ p q c cs 1 (e p q).up)
 have i:=λp q=>dO l.prog w b X G m.to zc3 ((zx6 IR FQ CV IS IQ).2 _ _ _ _ _ p q c cs 2 (a p q).up d.up (e p q).up (o p q).up x.up)
 have a:=aK l.prog w b X G I.to yk1 (zs7.2 _ _ _ _ _ c cs 0 );have u:=aK l.prog w b X G Q.to yv1 (zx7.2 _ _ _ _ _ c cs 0 );have o:=aK l.prog w b X G n.to zd4 ((zx3 FQ GW IV).2 _ _ _ _ _ c cs 1 d.up a.up u.up);have m:=aK l.prog w b X G j.to zd7 ((zs5 IW GW).2 _ _ _ _ _ c cs 2 o.up a.up);have n:=aK l.prog w b X G y.to ze3 ((zm4 Gp).2 _ _ _ _ _ c cs 3 m.up);have j:=aK l.prog w b X G r.to zf2 ((zs6 HJ).2 _ _ _ _ _ c cs 4 n.up);have m:=λp q=>dO l.prog w b X G R.to zh1 ((zx4 CV FQ).2 _ _ _ _ _ p q c cs 1 (e p q).up d.up)
 have a:∀n:Nat,Ce l.prog w K g b n "_law_same" ["_law_found","_law_due"] (Ed K (Et n)):=λn=>by
  induction n with
  | zero=>exact g7 _ _ _ X G h.to λf P F=>qv
  | succ n ih=>exact aK _ _ _ X G h.to tf ((Gn (Et n)).2 _ _ _ _ _ c cs n ih)
 have a:=a 5;exact tj Fl (k:=9) CB.up (λp q d A b s H E f=>(vx9 CV IU Jj Jk Ji (Et 5)).2 _ _ _ _ _ p q c cs 9 (e p q).up (i p q).up (m p q).up j.up v.up a.up _ d A b s H E f) uW
end K19
open PySem PySem.W PyProof.Rows
theorem PySem.Challenge.cw_slidehall_k19_layers_holds : PySem.Challenge.rw_slidehall_k19_layers.Holds :=
 K19.early λq loose XP YP d K hd hn hY facts =>
 L2.walk_of (l:=PySem.Challenge.rw_slidehall_k19_layers) (n:=63) (k:=10) (x:="_law_script") (CX:=λ_=>L2.CX0) (sp:=λw=>L2.spLaw (K w.params)) rfl 'z' hd {rfl,'z','z',rfl} hY (λw mg fa h KX G hmg=>K19.all_mk KX G (hn▸hmg) (facts w.params)) (λ_ _ a ns hl _ hS=>{a,ns,rfl,hS,hl,λ_=>rfl}) λ_ _ _ _ _ z=>z
end
end

