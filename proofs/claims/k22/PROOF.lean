import PyProof.Rows.All
import Wide.All
import OpenK.AllK
import Wide.FinOn
import KE.KDictSum
import KE.KIsAll
import KE.KListMore
import KE.KRevIter
import Lean
import OpenK.KCls
import OpenK.KOwn
import OpenK.KRaise
import PyProof.AutoRange
import PyProof.AutoSeq1
import PyProof.DictFindH
import PyProof.DictTruth
import PyProof.DictWalks
import PyProof.EqAt
import PyProof.EqKinds
import PyProof.ExcArgsOwn
import PyProof.ExcBaseAll.ValueError
import PyProof.FactsAll.range_2
import PyProof.FactsAll.tuple_2
import PyProof.InstStore
import PyProof.InstStoreFacts
import PyProof.ListMulRoad
import PyProof.MeetsDictList
import PyProof.NeKinds
import PyProof.NsDelKeeps
import PyProof.ReprLen
import PyProof.ReprRoads
import PyProof.Rows.Range3
import PyProof.Rows.RegStrFacts
import PyProof.Rows.SortRunsK
import PyProof.Rows.SortShell
import PyProof.Rows.TupDisplay
import PyProof.TupleCall
import PyProof.WalkInts
import PyProof.ExcClass
import PySem.Challenge.RW_slidehall_k22_layers_walked
section
set_option Elab.async false
set_option compiler.extract_closed false
set_option bootstrap.genMatcherCode false
set_option linter.all false
set_option maxRecDepth 100000
set_option maxHeartbeats 0
namespace K22
open PySem PySem.Spec PyProof.Rows PySem.W
def tp (i:Nat):Stmt:=PySem.Challenge.pw_slidehall_k22_layers_walked.main.body.getD i (.Pass ⟨0,0,0,0⟩)
def dA (s:Stmt):Arguments:=match s with
 | .FunctionDef _ z _ _ _ _ _ _ _ _=>z
 | _=>⟨[],[],none,[],[],none,[]⟩
def dB (s:Stmt):List Stmt:=match s with
 | .FunctionDef _ _ z _ _ _ _ _ _ _=>z
 | _=>[]
def dS (s:Stmt):Scope:=match s with
 | .FunctionDef _ _ _ _ _ _ z _ _ _=>z
 | _=>{ kind:=.function,names:=[],isGenerator:=false,isCoroutine:=false }
def FnAt (K:Frag)(x:Str)(i:Nat):Prop:=∃ (f:Addr)(oc:Value)(od an:Option Addr)(osl:Array (Option Value))(kV doc pm cdv ct:Value),nsIn K mainGlobals x=some (some (.ref f)) ∧
 K.lookup f=some ⟨oc,od,.func (fnOf x x (dA (tp i)) (dB (tp i)) (dS (tp i)) .none kV doc pm an cdv ct),osl⟩/\codeIn K cdv x=true/\keepIn K (.ref f)=true
theorem FnAt.of {K:Frag}{x:Str}{i:Nat}{f:Addr}{oc:Value}{od an:Option Addr}{osl:Array (Option Value)}{kV doc pm cdv ct:Value}(a:nsIn K mainGlobals x=some (some (.ref f)):=by k_is)
  (l:K.lookup f=some ⟨oc,od,.func (fnOf x x (dA (tp i)) (dB (tp i)) (dS (tp i)) .none kV doc pm an cdv ct),osl⟩:=by k_is)(c:codeIn K cdv x=true:=by k_is)(k:keepIn K (.ref f)=true:=by k_is):FnAt K x i:=⟨f,oc,od,an,osl,kV,doc,pm,cdv,ct,a,l,c,k⟩
def nZ(K)(x):=nsIn K mainGlobals x=some none
theorem nZ.of{K:Frag}{x}(h:nsIn K mainGlobals x=some none:=by k_is):nZ K x:=h
inductive Facts(K:Frag):Prop
|mk    (_:FnAt K "_law_begin" 31)(_:FnAt K "_law_take" 32)(_:FnAt K "within" 6)(_:FnAt K "covered" 7)(_:FnAt K "holders" 8)(_:FnAt K "goes" 13)(_:FnAt K "one_further" 14)(_:FnAt K "met_by" 15)(_:FnAt K "movers_among" 16)(_:FnAt K "movers" 17)(_:FnAt K "behind_step" 18)(_:FnAt K "pushed" 19)(_:FnAt K "stands_along" 20)(_:FnAt K "pushes_with_ends" 21)(_:FnAt K "all_pushes" 22)(_:FnAt K "refuse_too_many" 25)(_:FnAt K "layer_behind" 26)(_:FnAt K "spread" 27)(_:FnAt K "layers" 28)(_:FnAt K "come_to" 29)(_:FnAt K "_law_covered" 34)(_:FnAt K "_law_room_of" 35)(_:FnAt K "_law_sized" 36)(_:FnAt K "_law_kind" 37)(_:FnAt K "_law_hall" 38)(_:FnAt K "_law_lane" 39)(_:FnAt K "_law_same" 33)(_:FnAt K "law" 40)(_:nZ K "len")(_:nZ K "divmod")(_:nZ K "list")(_:nZ K "tuple")(_:nZ K "int")(_:nZ K "bool")(_:nZ K "str")(_:nZ K "dict")(_:nZ K "isinstance")(_:nZ K "all")(_:nZ K "any")(_:nZ K "sum")(_:nZ K "zip")(_:nZ K "enumerate")(_:nZ K "range")(_:nZ K "sorted")(_:nZ K "min")(_:nZ K "max")(_:nZ K "abs")(_:nZ K "reversed")(_:nZ K "set"){c9:Tok}(d9:nsIn K mainGlobals "WALL"=some (some (.int (-1) c9))){c2:Tok}(d3:nsIn K mainGlobals "STRONG"=some (some (.int (1) c2))){d0:Tok}(d8:nsIn K mainGlobals "DULL"=some (some (.int (-1) d0))){a0 a2 a1 a3 a4:Addr}{b8 b2 a6 b0 a5:Option Addr}{c3 a9 b1 a7 a8:Array (Option Value)}{c8 b7 b3 c1 c0:Nat}{b6 c6 c7 c4 c5 b4 b9 b5:Tok}(d7:nsIn K mainGlobals "STEPS"=some (some (.ref a0)))(d6:K.lookup a0=some ⟨.type "tuple",b8,.seq #[.ref a2,.ref a1,.ref a3,.ref a4] c8,c3⟩)(d1:K.lookup a2=some ⟨.type "tuple",b2,.seq #[.int (1) b6,.int (0) c6] b7,a9⟩)(d4:K.lookup a1=some ⟨.type "tuple",a6,.seq #[.int (0) c7,.int (1) c4] b3,b1⟩)(d5:K.lookup a3=some ⟨.type "tuple",b0,.seq #[.int (-1) c5,.int (0) b4] c1,a7⟩)(d2:K.lookup a4=some ⟨.type "tuple",a5,.seq #[.int (0) b9,.int (-1) b5] c0,a8⟩){t_MOST_STANDS:Tok}(y_MOST_STANDS:nsIn K mainGlobals "MOST_STANDS"=some (some (.int (2000) t_MOST_STANDS))):Facts K
end K22
open PySem PySem.W PyProof.Rows PySem.Challenge
noncomputable def vw:Program:=view rw_slidehall_k22_layers_walked.row.toRowW.prog [1,2,3,5,6,7,8,10,11,12,13,14,15,16,17,18,19,20,21,22,24,25,26,27,28,29,31,32,33,34,35,36,37,38,39,40]
local macro_rules
 | `(tactic| o_head $H)=>`(tactic| (
  refine holds_open (q:=vw) (loose:=[]) (N:=5700) (Xt:=λs=>xlAt vw [] s && recOk rw_slidehall_k22_layers_walked.row.toRowW.records s) (XP:=XL vw []) (Yf:=Hook.obs $H) (Ya:=Hook.val $H) (YP:=Hook.says $H) ?hl (Hook.of $H) (Hook.keeps $H) (λs e=>xl_of s (Bool.and_eq_true_iff.mp e).1) XL.keeps (by rfl) (by rfl) (by rfl) (λs e=>recFacts_of (Bool.and_eq_true_iff.mp e).2) (by rfl) (by first | assumption | decide +kernel) (by decide +kernel) ⟨rfl,rfl,rfl,rfl,rfl,by decide +kernel⟩ ?hw ?hc
  (case hl=>intro w; kernel_rfl)
  (case hw=>w_witness2)))
theorem K22.early (W:∀ (q:Program) (loose:List Str) (XP:(Str->Option Value)->Heap->Prop) (YP:World->Heap->Prop) (d:DefRec) (K:Params->Frag),d.params.defaults = []->d.name = "law"->(∀ (w:World) (h:Heap),YP w h->(K w.params).In h)->(∀ P:Params,K22.Facts (K P)) →
  WalkO q loose XP YP rw_slidehall_k22_layers_walked.row.toRowW d [] (λf vs=>PySem.call f vs)):rw_slidehall_k22_layers_walked.Holds:=by
 w_on; o_law; k_head
 k_fill
 refine W _ _ _ _ _ _ rfl rfl (λw h Y=>kIn_of Y) ?F
 case F =>
  intro P
  exact .mk .of .of .of .of .of .of .of .of .of .of .of .of .of .of .of .of .of .of .of .of .of .of .of .of .of .of .of .of .of .of .of .of .of .of .of .of .of .of .of .of .of .of .of .of .of .of .of .of .of (by k_is) (by k_is) (by k_is) (by k_is) (by k_is) (by k_is) (by k_is) (by k_is) (by k_is) (by k_is)

end
noncomputable section
set_option compiler.extract_closed false
set_option bootstrap.genMatcherCode false
local macro_rules(kind:=Lean.Parser.Command.declaration)
 |x=>if x.getHeadInfo matches .original .. then pure (x.setHeadInfo .none)else Lean.Macro.throwUnsupported
local macro_rules
 |`(command|open H in $c)=>`(command|set_option tactic.hygienic true in $c)
local macro_rules
 | `(tactic| and_intros)=>`(tactic| exact ⟨rfl,rfl,rfl,by decide +kernel,rfl,by decide +kernel,by decide +kernel⟩)
local macro_rules
 |`('o')=>`(by omega)
local macro_rules
 |`('z')=>`(by decide)
local macro_rules
 |`('d')=>`(by simp)
set_option hygiene false in
local macro_rules
 |`('r')=>`((model prog w))
set_option hygiene false in
local macro_rules
 |`('e')=>`((model X.prog X.w))
set_option hygiene false in
local macro_rules
 |`('p')=>`((Addr×Obj))
local macro_rules
 |`(command|instance $i:declId $s:declSig $v:declVal)=>if i.raw.getHeadInfo matches .original .. then do let x<-Lean.getRef;pure (Lean.mkNode x.getKind #[x[0].modifyArg 4 λ_=>Lean.mkNullNode #[Lean.mkNode ``Lean.Parser.Command.«noncomputable» #[Lean.mkAtom "noncomputable"]],Lean.mkNode ``Lean.Parser.Command.definition #[Lean.mkAtom "def",i,Lean.mkNode ``Lean.Parser.Command.optDeclSig #[s.raw[0],Lean.mkNullNode #[s.raw[1]]],v,Lean.mkNullNode]])else Lean.Macro.throwUnsupported
local macro_rules
 |`({$x:term,$y:term})=>`(⟨$x,$y⟩)
 |`({$x:term,$y:term,$z:term,*})=>`(⟨$x,$y,$z,*⟩)
local macro_rules
 |`(tactic|cases $e:ident)=>`(tactic|first|(replace $e:ident:=Option.some.inj $e;cases ($e))|cases ($e))
open PySem renaming wpAny_bind→Aa1,wpAny_pure→Ac1,wpAny_field→Ae1,wpAny_setField_rec→Ag1,wpAny_mono→Ah1,wpAny_truthy_bool→Ai1,wpAny_call_entry→Ak1,wpAny_seqItems→An1
open List renaming length_map→Aa0,getElem?_eq_some_iff→Ac0,getElem?_eq_getElem→Ad0,getElem?_map→Af0,size_toArray→Ai0,mem_cons→Aj0,length_append→Ak0,mem_singleton→Al0,mem_of_getElem?→Am0,append_assoc→Ao0,mem_append→Ar0,map_cons→Au0,take_add_one→Av0,length_cons→Ax0,map_append→Ay0,getElem?_set_ne→Ba0,mem_map→Bb0,take_length→Bd0,length_take→Be0,mem_cons_of_mem→Bg0,append_nil→Bh0,mem_cons_self→Bi0,mem_append_right→Bj0,not_mem_nil→Bk0,pairwise_append→Bl0,pairwise_cons→Bm0,length_range→Bo0,map_map→Bq0,getElem?_append_left→Br0,getElem?_of_mem→Bt0,take_of_length_le→Bv0,mem_range→Bw0,length_set→Bx0,mem_append_left→By0,replicate_succ→Cb0,getD_eq_getElem?_getD→Cc0,mem_flatMap→Cd0,length_filter_le→Ce0,pairwise_iff_getElem→Cg0,nodup_cons→Ch0,nodup_append→Ci0,flatten_cons→Cj0,ext_getElem?→Ck0,flatMap_append→Cl0,all_eq_true→Cm0,length_nil→Cn0,getElem?_append_right→Cp0,range_succ→Cs0,find?_cons→Ct0,pairwise_singleton→Cu0,length_eq_zero_iff→Cv0,getElem?_replicate→Cw0,getElem?_set_self→Cx0,length_replicate→Ea0
open PySem.Heap renaming get?_push_of_some→Ab0,get?_push_size→Ag0,size_push→Bs0,get?_push_ne→Cz0
open Nat renaming le_refl→Ae0,zero_add→Ah0,zero_le→An0,le_trans→Ap0,ne_of_lt→As0,lt_of_lt_of_le→Az0,lt_irrefl→Bz0,le_of_lt→Cq0,le_of_eq→Cr0
open Bool renaming false_ne_true→Aq0,false_eq_true→Bf0,and_self→Ca0,not_true→Co0
open Option renaming map_some→At0,bind_some→Bu0
open Array renaming length_toList→Aw0,getElem?_eq_getElem→Bc0,toList_append→Bn0,getElem?_toList→Cf0,getElem?_eq_none→Cy0
open Int renaming toNat_natCast→Bp0
open PySem PySem.Spec PyProof.Rows
open PySem.W (nsIn keepIn codeIn mg_of mg_none_of fnOf sortI eq_sortI)
def Ab1:type_of% @wpS_bind:=@wpS_bind
def Ad1:type_of% @wpS_pure:=@wpS_pure
def Af1:type_of% @wpS_forRange:=@wpS_forRange
def Aj1:type_of% @wpAny_rule:=@wpAny_rule
def Al1:type_of% @wpS_mono:=@wpS_mono
def Am1:type_of% @wpS_modify:=@wpS_modify
def Ao1:type_of% @decide_eq_false:=@decide_eq_false
def Ap1:type_of% @decide_eq_true:=@decide_eq_true
def Aq1:type_of% @beq_self_eq_true:=@beq_self_eq_true
set_option Elab.async false
set_option linter.all false
set_option maxRecDepth 100000
set_option tactic.hygienic false
set_option maxHeartbeats 0
local macro_rules
 | `(tactic| omega)=>`(tactic| first|with_reducible assumption|with_reducible exact Nat.le_refl _|with_reducible exact Nat.zero_le _|lia|omega +splitDisjunctions)
def uR:=PyProof.Rows.ld_const._auto_3
def uD:=PyProof.Rows.ld_const._auto_5
namespace L2
noncomputable abbrev Key:=Sum Int Str
instance vh4:Key->Value->Bool
 | .inl k,v=>Value.isInt k v
 | .inr x,v=>Value.isStrOf x v
instance um8(w:World):Key->Int
 | .inl k=>hashInt k
 | .inr x=>hashStr w x
theorem zd0:∀{k:Key} {v:Value},vh4 k v=true->(∃i t,k=Sum.inl i/\v=Value.int i t)\/(∃x t,k=Sum.inr x/\v=Value.str x t)
 | .inl i,v,h=>by
   obtain⟨t,e⟩:=Value.isInt_shape (k:=i) (v:=v) h;exact .inl ⟨i,t,rfl,e⟩
 | .inr x,v,h=>by
   obtain⟨t,e⟩:=Value.isStrOf_shape (x:=x) (v:=v) h;exact .inr ⟨x,t,rfl,e⟩
def yu1(i:Int)(t:Tok):vh4 (.inl i) (.int i t)=true:=by simp[vh4,Value.isInt]
def yu0(x:Str)(t:Tok):vh4 (.inr x) (.str x t)=true:=by simp[vh4,Value.isStrOf]
def wy4(a b:Int):decide ((Sum.inl a:Key)=Sum.inl b)=(a == b):=by
 by_cases e:a=b
 ·subst e;simp
 ·have h:¬(Sum.inl a:Key)=Sum.inl b:=λq=>e (Sum.inl.inj q)
  rw[Ao1 h];exact(beq_eq_false_iff_ne.mpr e).symm
def wy1(a b:Str):decide ((Sum.inr a:Key)=Sum.inr b)=decide (a=b):=by
 by_cases e:a=b
 ·subst e;simp
 ·have h:¬(Sum.inr a:Key)=Sum.inr b:=λq=>e (Sum.inr.inj q)
  rw[Ao1 h,Ao1 e]
def wy3(a:Int)(b:Str):decide ((Sum.inl a:Key)=Sum.inr b)=false:=Ao1 (λq=>nomatch q)
def wy2(a:Str)(b:Int):decide ((Sum.inr a:Key)=Sum.inl b)=false:=Ao1 (λq=>nomatch q)
instance ze0(prog:Program)(w:World):PySem.KeyKind prog w Key where
 is:=vh4
 hash:=um8 w
 inj:=λv a b ha hb=>by
  rcases zd0 ha with⟨i,t,rfl,rfl⟩ | ⟨x,t,rfl,rfl⟩
  ·rcases zd0 hb with⟨j,u,rfl,e⟩ | ⟨y,u,rfl,e⟩
   ·injection e with e1 _;rw[e1]
   ·exact nomatch e
  ·rcases zd0 hb with⟨j,u,rfl,e⟩ | ⟨y,u,rfl,e⟩
   ·exact nomatch e
   ·injection e with e1 _;rw[e1]
 byValue:=λk v h=>by
  rcases zd0 h with⟨i,t,rfl,rfl⟩ | ⟨x,t,rfl,rfl⟩<;>rfl
 pyHash:=λhv h=>by
  rcases zd0 hv with⟨i,t,rfl,rfl⟩ | ⟨x,t,rfl,rfl⟩
  ·exact wpAny_pyHash_int h
  ·exact wpAny_pyHash_str h
 eqBool:=λhu hv h=>by
  rcases zd0 hu with⟨i,t,rfl,rfl⟩ | ⟨x,t,rfl,rfl⟩
  ·rcases zd0 hv with⟨j,u,rfl,rfl⟩ | ⟨y,u,rfl,rfl⟩
   ·rw[wy4] at h;exact wpAny_eqBool_int h
   ·rw[wy3] at h;exact SeqAt.EqAt.int_str i t y u _ _ _ _ h
  ·rcases zd0 hv with⟨j,u,rfl,rfl⟩ | ⟨y,u,rfl,rfl⟩
   ·rw[wy2] at h;exact SeqAt.EqAt.str_int x t j u _ _ _ _ h
   ·rw[wy1] at h;exact wpAny_eqBool_str h
 «strs»:=λk x t v h=>by
  rcases zd0 h with⟨i,u,rfl,e⟩ | ⟨y,u,rfl,e⟩
  ·exact nomatch e
  ·injection e with e1 _
   subst e1;cases v<;>rfl
def yy9(prog:Program)(w:World)(i:Int)(t:Tok):(ze0 prog w).is (.inl i) (.int i t)=true:=yu1 i t
def yy8(prog:Program)(w:World)(x:Str)(t:Tok):(ze0 prog w).is (.inr x) (.str x t)=true:=yu0 x t
inductive vc6 where
 | inl (i:Int) | inr (x:Str) | t (l:List Key)
 deriving DecidableEq
instance vl9(prog:Program)(w:World):vc6->Int
 | .inl i=>(ze0 prog w).hash (.inl i)
 | .inr x=>(ze0 prog w).hash (.inr x)
 | .t l=>tupleKeyHash (ze0 prog w) l
instance vw2:vc6->Nat
 | .t l=>l.length+1
 | _=>1
instance isT(prog:Program)(w:World)(h:Heap):vc6->Value->Prop
 | .inl i,v=>vh4 (.inl i) v=true
 | .inr x,v=>vh4 (.inr x) v=true
 | .t l,v=>∃b,v=.ref b/\IsTupleKey (ze0 prog w) h l b
instance zl9(prog:Program)(w:World)(h:Heap)(ks:List vc6)(a:Addr):Prop:=∃o items n,h.get? a=some o/\o.cls=.type "tuple"/\o.data=.seq items n/\Paired (isT prog w h) ks items.toList
def zl9.typeIs{s:Shared}{ks:List vc6}{a:Addr}(x:zl9 prog w s.heap ks a):s.TypeIs (.ref a) "tuple":=let ⟨o,_,_,ho,hc,_⟩:=x;⟨o,ho,hc⟩
def wq2{h:Heap}{x y:vc6}{v:Value}(hx:isT prog w h x v)(hy:isT prog w h y v):x=y:=by
 have fl:∀{a b:Key},vh4 a v=true->vh4 b v=true->a=b:=λp q=>(ze0 prog w).inj _ _ _ p q
 have no:∀{a:Key} {c:Addr},vh4 a v=true->v=.ref c->False:=λp e=>by
  rcases zd0 p with⟨_,_,_,e'⟩ | ⟨_,_,_,e'⟩<;>rw[e] at e'<;>cases e'
 cases x<;>cases y<;>simp only[isT] at hx hy
 ·have:=fl hx hy;cases this;rfl
 ·have:=fl hx hy;cases this
 ·obtain⟨b,e,_⟩:=hy;exact(no hx e).elim
 ·have:=fl hx hy;cases this
 ·have:=fl hx hy;cases this;rfl
 ·obtain⟨b,e,_⟩:=hy;exact(no hx e).elim
 ·obtain⟨b,e,_⟩:=hx;exact(no hy e).elim
 ·obtain⟨b,e,_⟩:=hx;exact(no hy e).elim
 ·obtain⟨b,e,q⟩:=hx
  obtain⟨b',e',q'⟩:=hy;rw[e] at e';cases e';rw[q.inj q']
theorem yq9{h:Heap}:∀{x y:List vc6} {vs:List Value},Paired (isT prog w h) x vs->Paired (isT prog w h) y vs->x=y
 | _,_,_,.nil,.nil=>rfl
 | _,_,_,.cons a b,.cons c d=>by rw[wq2 a c,yq9 b d]
theorem xw2{h h':Heap}{k:vc6}{v:Value}{d:Addr}{o:Obj}{es ep}(x:isT prog w h k v)(ho:h.get? d=some o)(hd:o.data=.dict es ep)(hs:Heap.SameBut d h h'):isT prog w h' k v:=by
 cases k with
 | inl i=>exact x
 | inr i=>exact x
 | t l=>obtain⟨b,e,q⟩:=x;exact{b,e,q.keeps ho hd hs}
theorem wf2{k:vc6}{v:Value}{Q:Int->Shared->Prop}(hu:A.units<cLine)(h:isT prog w s.heap k v)(hQ:Q (vl9 prog w k) { s with toks:=s.toks+vw2 k }):wpAny 'r' A (PySem.pyHash v) Q E s:=by
 cases k with
 | inl i=>exact(ze0 prog w).pyHash (k:=.inl i) h hQ
 | inr i=>exact(ze0 prog w).pyHash (k:=.inr i) h hQ
 | t l=>obtain⟨b,rfl,q⟩:=h;exact wpAny_pyHash_tuple hu q hQ
def wz8{x y:vc6}{u v:Value}{Q:Bool->Shared->Prop}(hu:A.units<cLine)(hx:isT prog w s.heap x u)(hy:isT prog w s.heap y v)(hQ:Q (decide (x=y)) s):wpAny 'r' A (PySem.eqBool u v) Q E s:=by
 have ff:∀{a b:Key},vh4 a u=true->vh4 b v=true->Q (decide (a=b)) s->wpAny 'r' A (PySem.eqBool u v) Q E s:=λp q r=>(ze0 prog w).eqBool p q r
 have tu:∀{l:List Key} {b:Addr},IsTupleKey (ze0 prog w) s.heap l b->∃items,s.heap.IsTuple b items:=λ⟨o,items,n,ho,hc,hd,_⟩=>⟨items,o,ho,hc,n,hd⟩
 cases x<;>cases y<;>simp only[isT] at hx hy
 ·exact ff hx hy (by simpa using hQ)
 ·exact ff hx hy (by simpa using hQ)
 ·obtain⟨b,rfl,q⟩:=hy
  obtain⟨items,t⟩:=tu q;rcases zd0 hx with⟨i,z,_,rfl⟩ | ⟨i,z,e,_⟩
  ·exact SeqAt.EqAt.int_tuple i z t hu _ _ _ _ (by simpa using hQ)
  ·cases e
 ·exact ff hx hy (by simpa using hQ)
 ·exact ff hx hy (by simpa using hQ)
 ·obtain⟨b,rfl,q⟩:=hy
  obtain⟨items,t⟩:=tu q;rcases zd0 hx with⟨i,z,e,_⟩ | ⟨i,z,_,rfl⟩
  ·cases e
  ·exact SeqAt.EqAt.str_tuple i z t hu _ _ _ _ (by simpa using hQ)
 ·obtain⟨b,rfl,q⟩:=hx
  obtain⟨items,t⟩:=tu q;rcases zd0 hy with⟨i,z,_,rfl⟩ | ⟨i,z,e,_⟩
  ·exact SeqAt.EqAt.tuple_int i z t hu _ _ _ _ (by simpa using hQ)
  ·cases e
 ·obtain⟨b,rfl,q⟩:=hx
  obtain⟨items,t⟩:=tu q;rcases zd0 hy with⟨i,z,e,_⟩ | ⟨i,z,_,rfl⟩
  ·cases e
  ·exact SeqAt.EqAt.tuple_str i z t hu _ _ _ _ (by simpa using hQ)
 ·obtain⟨b,rfl,q⟩:=hx
  obtain⟨b',rfl,q'⟩:=hy;exact wpAny_eqBool_tuple hu q q' (by simpa using hQ)
instance xx4(prog:Program)(w:World)(ks:List vc6):Int:=reduceHash (Builtin.Tuple.tupleHashOf (ks.map (vl9 prog w)))
instance xy5(ks:List vc6):Nat:=(ks.map vw2).sum+1
def xx3{ks:List vc6}{a:Addr}{Q:Int->Shared->Prop}(hu:A.units+1<cLine)(hk:zl9 prog w s.heap ks a)(h:Q (xx4 prog w ks) { s with toks:=s.toks+xy5 ks }):wpAny 'r' A (PySem.pyHash (.ref a)) Q E s:=by
 have hT:=hk.typeIs;obtain⟨o,items,n,ho,_,hd,hi⟩:=hk;have hu0:A.units<cLine:=by omega
 unfold pyHash;first | unfold pyHashByItsType | skip
 first | refine Aa1 (wpAny_cRoomFor_or (.inr hu0) ?_) | skip
 refine Aa1 (wpAny_specialOf hT F.slot_tuple_hash.lookup ?_);show wpAny _ _ (if (some (Value.builtin "tuple.__hash__") == some Value.none)=true then _ else _) Q E s;rw[if_neg (by rw[beq_builtin_none];exact Aq0)];refine Aa1 (wpAny_specialOf hT F.slot_tuple_hash.lookup ?_);show wpAny _ _ (callSpecialIfBoundUnlessNone? (.ref a) "__hash__" _ >>= _) Q E s;refine Aa1 (wpAny_callSpecialIfBoundUnlessNone?_slot hT F.slot_tuple_hash (Ak1 F.slot_tuple_hash hT F.entry_tuple_hash ?_ (F.args_tuple_hash_1 _)));show wpAny _ _ (Builtin.Tuple.tupleItemsOf (.ref a) >>= _) _ _ s;refine Aa1 (wpAny_tupleItemsOf ho hd ?_);refine Aa1 ?_;rw[<-Array.forIn_toList];refine wpAny_forIn_list _
  (λrest (b:Array Int) s'=>∃done left,ks=done++left/\Paired (isT prog w s.heap) left rest/\b.toList=done.map (vl9 prog w)/\s'={ s with toks:=s.toks+(done.map vw2).sum })
  _ ?_ ?_ _ _ {[],ks,rfl,hi,rfl,rfl}
 ·rintro x rest b s' ⟨done,left,rfl,hl,hb,rfl⟩
  cases hl with
  | @cons k _ ks' _ h1 hl'=>
    refine Aa1 (wf2 (by rw[Around.in1_units];omega) h1 ?_);first
     | exact Ac1 {done++[k],ks','d',hl',by simp[hb],by simp[Nat.add_assoc]}
     | exact Aa1 (Ac1 (Ac1 {done++[k],ks','d',hl',by simp[hb],by simp[Nat.add_assoc]}))
 ·rintro b s' ⟨done,left,rfl,hl,hb,rfl⟩
  cases hl;rw[Bh0] at h;show wpAny _ _ (retInt (Builtin.Tuple.tupleHashOf b.toList)) _ _ _;rw[hb];refine wpAny_ret_mkInt ?_;unfold xx4 reduceHash xy5 at h;show wpAny _ _ (if (decide (-(2:Int) ^ 63<=Builtin.Tuple.tupleHashOf (done.map (vl9 prog w)))&&decide (Builtin.Tuple.tupleHashOf (done.map (vl9 prog w))<2 ^ 63))=true then _ else _) Q E _;by_cases hr:(decide (-(2:Int) ^ 63<=Builtin.Tuple.tupleHashOf (done.map (vl9 prog w)))&&decide (Builtin.Tuple.tupleHashOf (done.map (vl9 prog w))<2 ^ 63))=true
  ·rw[if_pos hr]
   rw[if_pos hr] at h;exact Ac1 (by simpa [Nat.add_assoc] using h)
  ·rw[if_neg hr]
   rw[if_neg hr] at h;exact Aa1 (Aj1 (Ac1 (by simpa [Nat.add_assoc] using h)))
def yv3{x y:List vc6}{a b:Addr}{P:Fin->Shared->Prop}(hu:A.units<cLine)(hx:zl9 prog w s.heap x a)(hy:zl9 prog w s.heap y b)(h:P (.done (.ret (.bool (decide (x=y))))) s) :
 wpAny 'r' A (Builtin.«tuple.__eq__» {[.ref a,.ref b],[]}) P E s:=by
 have hTb:=hy.typeIs;obtain⟨oa,xs,na,hoa,_,hda,hia⟩:=hx;obtain⟨ob,ys,nb,hob,_,hdb,hib⟩:=hy;show wpAny _ _ (isInstance (.ref b) (.type "tuple") >>= _) _ _ s;refine Aa1 (wpAny_isInstance hTb isSubtype_tuple_tuple ?_);simp only[Co0,Bf0,if_false];refine Aa1 (wpAny_tupleItemsOf hoa hda ?_);refine Aa1 (wpAny_tupleItemsOf hob hdb ?_);refine Aa1 ?_;refine wpAny_forIn_list _
  (λrest r s'=>r.1=none/\s'=s/\∃x' y' xs' ys',rest=List.zip xs' ys'/\Paired (isT prog w s.heap) x' xs'/\Paired (isT prog w s.heap) y' ys'/\decide (x'=y')=decide (x=y)/\(xs'.length == ys'.length)=(xs.size == ys.size))
  _ ?_ ?_ _ _ {rfl,rfl,x,y,xs.toList,ys.toList,rfl,hia,hib,rfl,'d'}
 ·rintro ⟨u,v⟩ rest r s' ⟨hr,rfl,x',y',xs',ys',hz,hx',hy',hdec,hlen⟩
  cases hx' with
  | nil=>simp at hz
  | @cons k1 u' x'' xs'' h1 hx''=>
    cases hy' with
    | nil=>simp at hz
    | @cons k2 v' y'' ys'' h2 hy''=>
      simp only[List.zip_cons_cons,List.cons.injEq,Prod.mk.injEq] at hz;obtain⟨⟨rfl,rfl⟩,rfl⟩:=hz;refine Aa1 (wz8 (x:=k1) (y:=k2) hu h1 h2 ?_);by_cases hk:k1=k2
      ·subst hk
       rw[Ap1 rfl];simp only[Co0,Bf0,if_false];refine Ac1 {rfl,rfl,x'',y'',xs'',ys'',rfl,hx'',hy'',?_,by simpa using hlen};rw[<-hdec];by_cases hxy:x''=y''
       ·simp[hxy]
       ·simp[hxy]
      ·rw[Ao1 hk]
       simp only[Bool.not_false,if_true];have hf:decide (x=y)=false:=by rw[<-hdec];simp[hk]
       rw[hf] at h;exact Aa1 (Ac1 (Ac1 (Ac1 h)))
 ·rintro ⟨r1,r2⟩ s' ⟨hr,rfl,x',y',xs',ys',hz,hx',hy',hdec,hlen⟩
  simp only at hr;subst hr;refine Ac1 ?_;have hfin:(xs.size == ys.size)=decide (x=y):=by
   rw[<-hdec,<-hlen];cases hx' with
   | nil=>
     cases hy' with
     | nil=>simp
     | cons _ _=>simp
   | cons _ _=>
     cases hy' with
     | nil=>simp
     | cons _ _=>simp at hz
  show P (.done (.ret (.bool (xs.size == ys.size)))) s';rw[hfin];exact h
def zl9.inj{h:Heap}{x y:List vc6}{a:Addr}(hx:zl9 prog w h x a)(hy:zl9 prog w h y a):x=y:=by
 obtain⟨o,items,n,ho,_,hd,hi⟩:=hx;obtain⟨o',items',n',ho',_,hd',hi'⟩:=hy;obtain rfl:o=o':=Option.some.inj (ho.symm.trans ho');rw[hd] at hd';injection hd' with h1 _
 subst h1;exact yq9 hi hi'
def wq7{x y:List vc6}{a b:Addr}{Q:Bool->Shared->Prop}(hu:A.units+1<cLine)(hx:zl9 prog w s.heap x a)(hy:zl9 prog w s.heap y b)(h:Q (decide (x=y)) s) :
 wpAny 'r' A (PySem.eqBool (.ref a) (.ref b)) Q E s:=by
 unfold PySem.eqBool;try with_reducible refine wpAny_holding ?_
 show wpAny _ _ (if (Value.ref a == Value.ref b)=true then _ else _) Q E s;by_cases hab:(Value.ref a == Value.ref b)=true
 ·rw[if_pos hab]
  have e:a=b:=by have:=eq_of_beq hab;injection this
  subst e;obtain rfl:=hx.inj hy;exact Aa1 (Aj1 (Ac1 (by simpa using h)))
 ·rw[if_neg hab]
  exact Aa1 (wpAny_richCompare_same_room (op:=.Eq) hx.typeIs hy.typeIs F.slot_tuple_eq
   (Ak1 F.slot_tuple_eq hx.typeIs F.entry_tuple_eq (yv3 (by rw[Around.in1_units];omega) hx hy {_,rfl,(λe=>nomatch e),Ai1 h}) (F.args_tuple_eq_2 _ _)) 'o')
def xp6{ks:List Key}{a:Addr}{n:Nat}{Q:Bool->Shared->Prop}(hk:IsTupleKey (ze0 prog w) s.heap ks a)(h:Q true s):wpAny 'r' A (eqIsQuiet (n+1) (.ref a)) Q E s:=by
 have hT:=hk.typeIs;obtain⟨o,items,m,ho,_,hd,hi⟩:=hk;unfold eqIsQuiet;refine Aa1 (wpAny_specialOf hT F.slot_tuple_eq.lookup ?_);show wpAny _ _ (isInstance (.ref a) (.type "tuple") >>= _) _ _ s;refine Aa1 (wpAny_isInstance hT isSubtype_tuple_tuple ?_);simp only[Co0,Bf0,if_false];refine Aa1 (An1 ho hd ?_);refine Aa1 ?_;show wpAny _ _ (forIn items _ _) _ _ s;rw[<-Array.forIn_toList];refine wpAny_forIn_list _ (λrest r s'=>r.1=none/\s'=s/\∀v∈rest,carriedByValue v=true) _ ?_ ?_ _ _ ⟨rfl,rfl,hi.byValue⟩
 ·rintro v rest r s' ⟨hr,rfl,hall⟩
  rw[eqIsQuiet_byValue _ (hall v Bi0)];refine Aa1 (Ac1 ?_);simp only[Co0,Bf0,if_false];exact Ac1 {rfl,rfl,λu hu'=>hall u (Bg0 _ hu')}
 ·rintro ⟨r1,r2⟩ s' ⟨hr,rfl,_⟩
  simp only at hr;subst hr;exact Ac1 h
theorem xp7{k:vc6}{v:Value}{n:Nat}{Q:Bool->Shared->Prop}(hk:isT prog w s.heap k v)(h:Q true s):wpAny 'r' A (eqIsQuiet (n+1) v) Q E s:=by
 have fl:∀{k:Key},vh4 k v=true->wpAny 'r' A (eqIsQuiet (n+1) v) Q E s:=λz=>by
  rw[eqIsQuiet_byValue _ ((ze0 prog w).byValue _ _ z)];exact Ac1 h
 cases k with
 | inl i=>exact fl hk
 | inr i=>exact fl hk
 | t l=>obtain⟨b,rfl,q⟩:=hk;exact xp6 q h
def xk4{ks:List vc6}{a:Addr}{Q:Bool->Shared->Prop}(hk:zl9 prog w s.heap ks a)(h:Q true s):wpAny 'r' A (eqIsQuiet 8 (.ref a)) Q E s:=by
 have hT:=hk.typeIs;obtain⟨o,items,m,ho,_,hd,hi⟩:=hk;unfold eqIsQuiet;refine Aa1 (wpAny_specialOf hT F.slot_tuple_eq.lookup ?_);show wpAny _ _ (isInstance (.ref a) (.type "tuple") >>= _) _ _ s;refine Aa1 (wpAny_isInstance hT isSubtype_tuple_tuple ?_);simp only[Co0,Bf0,if_false];refine Aa1 (An1 ho hd ?_);refine Aa1 ?_;show wpAny _ _ (forIn items _ _) _ _ s;rw[<-Array.forIn_toList];refine wpAny_forIn_list _ (λrest r s'=>r.1=none/\s'=s/\∃left,Paired (isT prog w s.heap) left rest) _ ?_ ?_ _ _ ⟨rfl,rfl,ks,hi⟩
 ·rintro v rest r s' ⟨hr,rfl,left,hl⟩
  cases hl with
  | cons h1 hl=>
    refine Aa1 (xp7 (n:=6) h1 ?_);simp only[Co0,Bf0,if_false];exact Ac1 {rfl,rfl,_,hl}
 ·rintro ⟨r1,r2⟩ s' ⟨hr,rfl,_⟩
  simp only at hr;subst hr;exact Ac1 h
theorem yj7{h h':Heap}{d:Addr}{o:Obj}{es ep}(ho:h.get? d=some o)(hd:o.data=.dict es ep)(hs:Heap.SameBut d h h'):∀{ks:List vc6} {vs:List Value},Paired (isT prog w h) ks vs->Paired (isT prog w h') ks vs
 | _,_,.nil=>.nil
 | _,_,.cons a b=>.cons (xw2 a ho hd hs) (yj7 ho hd hs b)
def zl9.keeps{h h':Heap}{ks:List vc6}{a d:Addr}{o:Obj}{es ep}(x:zl9 prog w h ks a)(ho:h.get? d=some o)(hd:o.data=.dict es ep)(hs:Heap.SameBut d h h'):zl9 prog w h' ks a:=by
 obtain⟨o',items,n,ho',hc,hd',hi⟩:=x;have hne:a≠d:=by
  rintro rfl;obtain rfl:o'=o:=Option.some.inj (ho'.symm.trans ho);rw[hd] at hd';exact nomatch hd'
 exact{o',items,n,(hs.2 a hne).trans ho',hc,hd',yj7 ho hd hs hi}
instance zj4(prog:Program)(w:World):HeapKind prog w (List vc6) where
 is:=zl9 prog w
 hash:=xx4 prog w
 draws:=xy5
 room:=λA=>A.units+1<cLine
 inj:=λhx hy=>hx.inj hy
 keeps:=λx ho hd hs=>x.keeps ho hd hs
 pyHash:=λhu hk h=>xx3 hu hk h
 eqBool:=λhu hx hy h=>wq7 hu hx hy h
 quiet:=λhk h=>xk4 hk h
inductive V where
 | non | bl (b:Bool) | int (i:Int) | str (x:Str) | byt (b:Array UInt8) | flt (b:UInt64) | ref (a:Addr) | ty (n:String)
 deriving DecidableEq
instance vc7:V->Value->Prop
 | .non,u=>u=Value.none
 | .bl b,u=>u=Value.bool b
 | .int i,u=>∃t,u=Value.int i t
 | .str x,u=>∃t,u=Value.str x t
 | .byt b,u=>∃t,u=Value.bytes b t
 | .flt b,u=>∃t,u=Value.float b t
 | .ref a,u=>u=Value.ref a
 | .ty n,u=>u=Value.type n
noncomputable abbrev vc8:List V->List Value->Prop:=Paired vc7
def vc8.length{xs:List V}{us:List Value}(r:vc8 xs us):xs.length=us.length:=Paired.length r
theorem vc8.get:∀{xs:List V} {us:List Value} {i:Nat} {x:V},vc8 xs us->xs[i]?=some x->∃u,us[i]?=some u/\vc7 x u
 | _,_,_,_,.nil,e=>by simp at e
 | _,_,0,_,.cons r _,e=>by simp at e;subst e;exact{_,rfl,r}
 | _,_,i+1,x,.cons _ t,e=>by
   obtain⟨u,h1,h2⟩:=vc8.get (i:=i) (x:=x) t (by simpa using e);exact{u,by simpa using h1,h2}
theorem vc8.set(r:vc7 x u):∀{xs:List V} {us:List Value} (i:Nat),vc8 xs us->vc8 (xs.set i x) (us.set i u)
 | _,_,_,.nil=>.nil
 | _,_,0,.cons _ t=>.cons r t
 | _,_,i+1,.cons q t=>.cons q (vc8.set r i t)
theorem vc8.append:∀{xs ys:List V} {us ws:List Value},vc8 xs us->vc8 ys ws->vc8 (xs++ys) (us++ws)
 | _,_,_,_,.nil,s=>s
 | _,_,_,_,.cons r t,s=>.cons r (vc8.append t s)
theorem vc8.take:∀{xs:List V} {us:List Value} (n:Nat),vc8 xs us->vc8 (xs.take n) (us.take n)
 | _,_,0,_=>.nil
 | _,_,_+1,.nil=>.nil
 | _,_,n+1,.cons r t=>.cons r (vc8.take n t)
theorem vc8.drop:∀{xs:List V} {us:List Value} (n:Nat),vc8 xs us->vc8 (xs.drop n) (us.drop n)
 | _,_,0,r=>r
 | _,_,_+1,.nil=>.nil
 | _,_,n+1,.cons _ t=>vc8.drop n t
instance vn8:Option V->Option Value->Prop
 | some v,some u=>vc7 v u
 | none,none=>True
 | _,_=>False
instance KV{L:Type}:List (L×V)->List (L×Value)->Prop:=Paired λ(p:L×V) (q:L×Value)=>p.1=q.1/\vc7 p.2 q.2
instance kV:Key->V
 | .inl i=>.int i
 | .inr x=>.str x
inductive HO where
 /-- a list -/
 | lst (xs:List V)
 /-- a tuple (never changes) -/
 | tup (xs:List V)
 /-- a dict whose keys are ints and texts;one whose keys are tuples of ints and texts (the empty one is both) -/
 | dK (kvs:List (Key×V)) | dT (kvs:List (List vc6×V))
 /-- a set of ints: its members,its size -/
 | set (S:Int->Bool) (n:Nat)
 /-- an instance of the class at C,its dict at dx,its attributes -/
 | ins (C dx:Addr) (fs:List (Str×V))
 /-- the dict of the instance at x -/
 | own (x:Addr)
 /-- the dict of an exception -/
 | xd (fs:List (Str×V))
 /-- a bound method,f of x -/
 | met (f x:Addr)
 /-- a range object lo,lo+1,.. below hi -/
 | rng (lo hi:Int)
 /-- a thing that is known to the object (the script;a dict while a loop walks it): read,never written while it is so -/
 | frz (o:Obj) (u:HO)
 /-- a code object's table -/
 | tbl (ps:Array Value)
 /-- any other thing,by what is true of its one object (a def of one's own: SetO a S n:=HO.ext λh=>..) -/
 | ext (φ:Heap->Prop)
noncomputable abbrev Hp:=Addr->Option HO
instance upd(H:Hp)(a:Addr)(o:HO):Hp:=λb=>if b=a then some o else H b
instance KIs(H:Hp):vc6->V->Prop
 | .inl i,v=>v=.int i
 | .inr x,v=>v=.str x
 | .t l,v=>∃b,v=.ref b/\H b=some (.tup (l.map kV))
instance vk4(H:Hp)(b:Addr)(k:List vc6):Prop:=∃vs,H b=some (.tup vs)/\Paired (KIs H) k vs
theorem xu5{H H':Hp}(ht:∀b ys,H b=some (.tup ys)->H' b=some (.tup ys)):∀{k:vc6} {v:V},KIs H k v->KIs H' k v
 | .inl _,_,h=>h
 | .inr _,_,h=>h
 | .t _,_,⟨b,e,q⟩=>{b,e,ht _ _ q}
theorem yj4{H H':Hp}(ht:∀b ys,H b=some (.tup ys)->H' b=some (.tup ys)):∀{k:List vc6} {vs:List V},Paired (KIs H) k vs->Paired (KIs H') k vs
 | _,_,.nil=>.nil
 | _,_,.cons a b=>.cons (xu5 ht a) (yj4 ht b)
def vk4.keeps{H H':Hp}(ht:∀b ys,H b=some (.tup ys)->H' b=some (.tup ys)){b:Addr}{k:List vc6}(h:vk4 H b k):vk4 H' b k:=
 let ⟨vs,e,q⟩:=h;{vs,ht _ _ e,yj4 ht q}
def zb3:upd H a o a=some o:=by unfold upd;rw[if_pos rfl]
def za8(h:b≠a):upd H a o b=H b:=by unfold upd;rw[if_neg h]
open H in
def upd_upd:upd (upd H a o) a u=upd H a u:=by
 funext b;unfold upd;split<;>rfl
def vp2{H:Hp}{a b:Addr}{o u:HO}(h:H a=some o)(h':H b=some u)(d:o≠u):a≠b:=by
 intro e;subst e;rw[h] at h';exact d (Option.some.inj h')
def zb5{H:Hp}{a b:Addr}{o:HO}(h:H a=some o)(h':H b=none):a≠b:=by
 intro e;subst e;rw[h] at h';cases h'
section
variable(P:Program)(w:World)
instance NoD(h:Heap)(a:Addr):Prop:=∃o,h.get? a=some o/\o.dict=none
instance vd4(H:Hp)(h:Heap)(a:Addr):HO->Prop
 | .lst xs=>xs.length<=sizeLine/\∃(its:List Value) (n:Nat),vc8 xs its/\h.get? a=some { cls:=.type "list",data:=.seq its.toArray n }
 | .tup xs=>xs.length<=sizeLine/\∃its:List Value,vc8 xs its/\IsTup h a its.toArray/\NoD h a
 | .dK kvs=>kvs.length<=sizeLine/\(a == sysModules)=false/\∃vs,KV kvs vs/\h.DictOf (ze0 P w) a vs
 | .dT kvs=>kvs.length<=sizeLine/\(a == sysModules)=false/\∃xs:List (List vc6×Addr×Value),
  Paired (λ(p:List vc6×V) (q:List vc6×Addr×Value)=>p.1=q.1/\vk4 H q.2.1 p.1/\vc7 p.2 q.2.2) kvs xs/\
  ∃o es ep,h.get? a=some o/\o.ExactDict/\o.data=.dict es ep/\es.toList=xs.map (entryOfKey (zj4 P w))/\(xs.map (·.1)).Nodup
 | .set S n=>h.SetOf (intKind P w) a S n
 | .ins C dx fs=>H dx=some (.own a)/\fs.length<=1000/\dx≠a/\h.get? a=some (PySem.W.instObj C dx)/\
  ∃mA,h.Ns1 dx mA/\(∀f,vn8 (fs.lookup f) (mA f))/\PySem.Within mA (fs.map (·.1))
 | .own _=>∃o,h.get? a=some o
 | .xd fs=>∃mA,h.Ns1 a mA/\∀f,vn8 (fs.lookup f) (mA f)
 | .rng lo hi=>∃t u v,h.get? a=some { cls:=.type "range",data:=.fields #[.int lo t,.int hi u,.int 1 v] }
 | .frz o u=>h.get? a=some o/\vd4 H h a u
 | .tbl ps=>h.get? a=some { cls:=.none,data:=.fields ps }
 | .met f x=>h.get? a=some (PySem.W.methodObj (.ref f) (.ref x))
 | .ext φ=>φ h/\(∃o,h.get? a=some o)/\∀h1 h2:Heap,φ h1->(∀o,h1.get? a=some o->h2.get? a=some o)->φ h2
instance HOk(H:Hp)(h:Heap):Prop:=∀a o,H a=some o->vd4 P w H h a o
end
theorem vd4.lt(x:vd4 P w H h a o):a<h.objs.size:=by
 cases o with
 | lst xs=>obtain⟨_,_,_,_,e⟩:=x;exact Heap.lt_size e
 | tup xs=>obtain⟨_,_,_,p,_⟩:=x;exact p.lt
 | dK kvs=>obtain⟨_,_,_,_,o,_,_,e,_⟩:=x;exact Heap.lt_size e
 | dT kvs=>obtain⟨_,_,_,_,o,_,_,e,_⟩:=x;exact Heap.lt_size e
 | set S n=>obtain⟨o,_,_,_,e,_⟩:=x;exact Heap.lt_size e
 | ins C dx fs=>obtain⟨_,_,_,e,_⟩:=x;exact Heap.lt_size e
 | own y=>obtain⟨_,e⟩:=x;exact Heap.lt_size e
 | xd fs=>obtain⟨_,⟨_,_,_,e,_⟩,_⟩:=x;exact Heap.lt_size e
 | rng lo hi=>obtain⟨_,_,_,e⟩:=x;exact Heap.lt_size e
 | frz ob u=>obtain⟨e,_⟩:=x;exact Heap.lt_size e
 | tbl ps=>exact Heap.lt_size (show h.get? a=some _ from x)
 | met f y=>exact Heap.lt_size (show h.get? a=some _ from x)
 | ext φ=>obtain⟨_,⟨_,e⟩,_⟩:=x;exact Heap.lt_size e
theorem Paired.mapP{α β:Type}{F G:α->β->Prop}:∀{l₁:List α} {l₂:List β},Paired F l₁ l₂->(∀a b,F a b->G a b)->Paired G l₁ l₂
 | _,_,.nil,_=>.nil
 | _,_,.cons r t,f=>.cons (f _ _ r) (Paired.mapP t f)
theorem vd4.stay(x:vd4 P w H h a o)(k:∀b u,(b=a\/H b=some (.own a))->h.get? b=some u->h'.get? b=some u)(ho:∀b,H b=some (.own a)->H' b=some (.own a))(ht:∀b xs,H b=some (.tup xs)->H' b=some (.tup xs)):vd4 P w H' h' a o:=by
 induction o with
 | lst xs=>obtain⟨z,its,n,r,e⟩:=x;exact{z,its,n,r,k _ _ (.inl rfl) e}
 | tup xs=>obtain⟨z,its,r,⟨ob,e,c⟩,od,e2,c2⟩:=x;exact{z,its,r,{ob,k _ _ (.inl rfl) e,c},od,k _ _ (.inl rfl) e2,c2}
 | dK kvs=>obtain⟨z,y,vs,r,ob,es,ep,e,c⟩:=x;exact{z,y,vs,r,ob,es,ep,k _ _ (.inl rfl) e,c}
 | dT kvs=>
   obtain⟨z,y,xs,r,ob,es,ep,e,c⟩:=x;exact{z,y,xs,Paired.mapP r λp q z=>{z.1,z.2.1.keeps ht,z.2.2},ob,es,ep,k _ _ (.inl rfl) e,c}
 | set S n=>obtain⟨ob,es,ep,t,e,c⟩:=x;exact{ob,es,ep,t,k _ _ (.inl rfl) e,c}
 | ins C dx fs=>
   obtain⟨d,z,ne,e,mA,⟨od,es,ep,e2,c⟩,r⟩:=x;exact{ho _ d,z,ne,k _ _ (.inl rfl) e,mA,{od,es,ep,k _ _ (.inr d) e2,c},r}
 | own y=>obtain⟨ob,e⟩:=x;exact{ob,k _ _ (.inl rfl) e}
 | xd fs=>obtain⟨mA,⟨od,es,ep,e,c⟩,r⟩:=x;exact{mA,{od,es,ep,k _ _ (.inl rfl) e,c},r}
 | rng lo hi=>obtain⟨t,u,v,e⟩:=x;exact{t,u,v,k _ _ (.inl rfl) e}
 | frz ob u ih=>obtain⟨e,q⟩:=x;exact{k _ _ (.inl rfl) e,ih q}
 | tbl ps=>
   have e:h.get? a=some { cls:=.none,data:=.fields ps }:=x;show h'.get? a=some { cls:=.none,data:=.fields ps };exact k a _ (.inl rfl) e
 | met f y=>
   have e:h.get? a=some (PySem.W.methodObj (.ref f) (.ref y)):=x;show h'.get? a=some (PySem.W.methodObj (.ref f) (.ref y));exact k a _ (.inl rfl) e
 | ext φ=>obtain⟨p,⟨o,e⟩,st⟩:=x;exact{st _ _ p λo q=>k _ _ (.inl rfl) q,{o,k _ _ (.inl rfl) e},st}
def HOk.lt(x:HOk P w H h)(e:H a=some o):a<h.objs.size:=(x a o e).lt
theorem HOk.fresh(x:HOk P w H h)(e:h.objs.size<=a):H a=none:=by
 cases q:H a with
 | none=>rfl
 | some u=>exact absurd (Az0 (x.lt q) e) (Bz0 _)
def HOk.kept(x:HOk P w H h)(k:∀b u,h.get? b=some u->h'.get? b=some u):HOk P w H h':=λa o e=>
 (x a o e).stay (λb u _ q=>k b u q) (λ_ q=>q) λ_ _ q=>q
def HOk.laid(x:HOk P w H h)(k:∀b u,h.get? b=some u->h'.get? b=some u)(hp:h.objs.size<=a)(new:vd4 P w (upd H a o) h' a o):HOk P w (upd H a o) h':=λb u e=>by
 have hn:=x.fresh hp;by_cases hb:b=a
 ·subst hb;rw[zb3] at e;cases e;exact new
 ·rw[za8 hb] at e
  exact(x b u e).stay (λc v _ q=>k c v q) (λc q=>by rw[za8 (zb5 q hn)];exact q) λc xs q=>by rw[za8 (zb5 q hn)];exact q
instance Rd(H:Hp)(a:Addr)(u:HO):Prop:=H a=some u\/∃o,H a=some (.frz o u)
def Rd.ok(r:Rd H a u)(x:HOk P w H h):vd4 P w H h a u:=by
 rcases r with r | ⟨o,r⟩
 ·exact x a u r
 ·obtain⟨_,q⟩:=x a _ r
  exact q
instance Mut:Option HO->Prop
 | some (.lst _)=>True
 | some (.dK _)=>True
 | some (.dT _)=>True
 | some (.set _ _)=>True
 | some (.ins _ _ _)=>True
 | some (.ext _)=>True
 | _=>False
def HOk.write(ok:HOk P w H h)(mu:Mut (H x))(he:e=x\/H e=some (.own x))(k:∀b u,b≠e->h.get? b=some u->h'.get? b=some u)(heo:∃u,h'.get? e=some u)(new:vd4 P w (upd H x o') h' x o'):HOk P w (upd H x o') h':=λb u q=>by
 have nown:∀c y,H c=some (.own y)->c≠x:=λc y r z=>by subst z;rw[r] at mu;exact mu
 have ntup:∀c xs,H c=some (.tup xs)->c≠x:=λc xs r z=>by subst z;rw[r] at mu;exact mu
 by_cases hb:b=x
 ·subst hb;rw[zb3] at q;cases q;exact new
 ·rw[za8 hb] at q
  by_cases hbe:b=e
  ·have q':H b=some (.own x):=by
    rcases he with z | z
    ·exact absurd (hbe.trans z) hb
    ·rw[hbe];exact z
   rw[q] at q';cases q';obtain⟨v,hv⟩:=heo;exact{v,by rw[hbe];exact hv}
  ·refine(ok b u q).stay (λc v hc r=>k c v ?_ r) (λc r=>by rw[za8 (nown c b r)];exact r) λc xs r=>by rw[za8 (ntup c xs r)];exact r
   rcases hc with rfl | hc
   ·exact hbe
   ·rintro rfl
    rcases he with z | z
    ·exact nown c b hc z
    ·rw[hc] at z;cases z;exact hb rfl
structure Un(fs ex:List Addr)(H H':Hp)(h h':Heap):Prop where
 keep:∀b o,h.get? b=some o->H b=none->b∉fs->b∉ex->h'.get? b=some o
 slot:∀b o,h.get? b=some o->H b=none->b∈fs->b∉ex->∃sl,h'.get? b=some { o with slots:=sl }
 free:∀b o,h.get? b=some o->H b=none->b∉ex->H' b=none
 there:∀b o,h.get? b=some o->b∉ex->∃o',h'.get? b=some o'
 tups:∀b xs,H b=some (.tup xs)->H' b=some (.tup xs)
 frzs:∀b o u,H b=some (.frz o u)->H' b=some (.frz o u)
 tbls:∀b ps,H b=some (.tbl ps)->∃more,H' b=some (.tbl (ps++more))
def Un.any(u:Un fs ex H H1 h h1){b:Addr}{ob:Obj}(q:h.get? b=some ob)(n:H b=none)(hx:b∉ex):∃sl,h1.get? b=some { ob with slots:=sl }:=by
 by_cases hb:b∈fs
 ·exact u.slot b ob q n hb hx
 ·exact{ob.slots,u.keep b ob q n hb hx}
def Un.kept(k:∀b u,h.get? b=some u->h'.get? b=some u):Un fs ex H H h h':=
 {λb ob q _ _ _=>k b ob q,λb ob q _ _ _=>{ob.slots,k b ob q},λ_ _ _ n _=>n,λb ob q _=>{ob,k b ob q},λ_ _ q=>q,λ_ _ _ q=>q,λ_ ps q=>{#[],by rw[q];simp}}
def Un.refl:Un fs ex H H h h:=Un.kept λ_ _ q=>q
def Un.laid(k:∀b u,h.get? b=some u->h'.get? b=some u)(hp:h.objs.size<=a)(hn:H a=none):Un fs ex H (upd H a o) h h' where
 keep:=λb u q _ _ _=>k b u q
 slot:=λb u q _ _ _=>{u.slots,k b u q}
 free:=λb u q n _=>by rw[za8 (As0 (Az0 (Heap.lt_size q) hp))];exact n
 there:=λb u q _=>{u,k b u q}
 tups:=λb xs q=>by rw[za8 (zb5 q hn)];exact q
 frzs:=λb u xs q=>by rw[za8 (zb5 q hn)];exact q
 tbls:=λb ps q=>{#[],by rw[za8 (zb5 q hn),q];simp}
def Un.write(mu:Mut (H x))(he:e=x\/H e=some (.own x))(k:∀b u,b≠e->h.get? b=some u->h'.get? b=some u)(heo:∃u,h'.get? e=some u):Un fs ex H (upd H x o) h h':=by
 have hx:∀b,H b=none->b≠x:=λb n z=>by subst z;rw[n] at mu;exact mu
 have hb:∀b,H b=none->b≠e:=λb n z=>by
  subst z;rcases he with r | r
  ·exact hx b n r
  ·rw[n] at r;cases r
 have hm:∀b u,H b=some u->¬Mut (some u)->b≠x:=λb u q nm z=>by subst z;rw[q] at mu;exact nm mu
 refine{λb u q n _ _=>k b u (hb b n) q,λb u q n _ _=>{u.slots,k b u (hb b n) q},λb u q n _=>by rw[za8 (hx b n)];exact n,λb u q _=>?_,
  λb xs q=>by rw[za8 (hm b _ q λz=>z)];exact q,λb u xs q=>by rw[za8 (hm b _ q λz=>z)];exact q,λb ps q=>{#[],by rw[za8 (hm b _ q λz=>z),q];simp}}
 by_cases hbe:b=e
 ·subst hbe;exact heo
 ·exact{u,k b u hbe q}
instance trk(h:Heap)(H:Hp):List Addr:=(List.range h.objs.size).filter λa=>(H a).isSome
instance vr1(h:Heap)(H:Hp):Heap:=PySem.W.hideAll h (trk h H)
def xx1(h:Heap)(H:Hp):(vr1 h H).objs.size=h.objs.size:=PySem.W.hideAll_size _ _
def wf1(e:h.get? b=some o)(n:H b=none):(vr1 h H).get? b=some o:=
 PySem.W.hideAll_get _ e λhm=>by
  have q:(H b).isSome=true:=(List.mem_filter.mp hm).2;rw[n] at q;simp at q
theorem wo6(e:(vr1 h H).get? b=some o):h.get? b=some o/\H b=none:=by
 have e':h.get? b=some o:=PySem.W.of_hideAll (trk h H) e;refine{e',?_};cases q:H b with
 | none=>rfl
 | some x=>
   have hm:b∈trk h H:=List.mem_filter.mpr {Bw0.mpr (Heap.lt_size e'),by simp[q]};have z:(vr1 h H).get? b=none:=PySem.W.hideAll_none (trk h H) hm;rw[z] at e;cases e
structure Mod(K:PySem.W.Frag)(mg:Str->Option Value)(base:Heap):Prop where
 kin:K.In base
 glob:base.Ns mainGlobals mg
 blt:∃mb,base.Ns builtinsNs mb/\∀x:Str,x≠"__name__"->mb x=bootBuiltins x
 nolimit:base.NoLimit
structure Cx where
 prog:Program
 w:World
 K:PySem.W.Frag
 mg:Str->Option Value
 base:Heap
 A:Around
 N:List Str
 s₀:Shared
 H₀:Hp
 env:Env
 outer:List Env
 stack:List Env
 ex:List Addr
 fn:Str->Bool
 calm:Bool
 pn:List 'p'
 xe:Value->Shared->Prop
instance frs(l:List Env):List Addr:=l.filterMap (·.frame)
noncomputable abbrev Cx.fs(X:Cx):List Addr:=frs X.outer
instance Vis(sc:Scope)(x:Str):Prop:=sc.names.lookup x=some .local\/sc.names.lookup x=some .cell\/sc.names.lookup x=some .free
instance Loc(sc:Scope)(x:Str):Prop:=sc.names.lookup x=some .local\/sc.names.lookup x=some .cell
instance uo2(env:Env)(h:Heap)(m:Str->Option Value)(x:Str)(u:Value):Prop:=
 (env.kindOf x=some .local/\m x=some u)\/((env.kindOf x=some .cell\/env.kindOf x=some .free)/\∃c,env.cells.lookup x=some c/\h.IsCell c (some u))
structure Cx.Ok(X:Cx):Prop where
 mod:Mod X.K X.mg X.base
 kind:X.env.scope.kind=.function
 glob:X.env.globals=mainGlobals
 blt:X.env.builtins=builtinsNs
 above:X.s₀.heap.objs.size<=X.env.locals
 inj:∀x y c,X.env.cells.lookup x=some c->X.env.cells.lookup y=some c->x=y
 has:∀x,(X.env.kindOf x=some .cell\/X.env.kindOf x=some .free)->∃c,X.env.cells.lookup x=some c
 cab:∀x c,X.fn x=true->X.env.cells.lookup x=some c->X.s₀.heap.objs.size<=c
 hd:X.calm=true->X.A.handled=none
 frames:X.A.frames=some X.stack
 stk:X.stack=X.outer\/(X.stack=X.env::X.outer/\X.env.frame=some X.env.locals)
 exf:∀b∈X.ex,b≠X.env.locals/\∀x c,X.env.cells.lookup x=some c->c≠b
 bs:∀b o,X.base.get? b=some o->X.s₀.heap.get? b=some o/\X.H₀ b=none
 bsz:X.base.objs.size<=X.s₀.heap.objs.size
 noex:∀b o,X.base.get? b=some o->b∉X.ex
 exfs:∀b∈X.ex,b∉X.fs
 funs:X.s₀.heap.FunFrames X.base X.outer
 frf:∀b∈X.fs,X.H₀ b=none
structure Inv(X:Cx)(A3:List 'p')(Y:List (Option V))(H:Hp)(s:Shared):Prop where
 ok:X.Ok
 os:s.os=X.s₀.os
 bare:AllBare s.gens
 base:Un X.fs X.ex X.H₀ H X.s₀.heap s.heap
 loc:∃m,s.heap.Ns X.env.locals m/\∀(i:Nat) (x:Str) (v:V),X.N[i]?=some x->Y[i]?=some (some v)->Vis X.env.scope x->∃u,vc7 v u/\uo2 X.env s.heap m x u
 cell:∀x c,X.env.cells.lookup x=some c->∃v,s.heap.IsCell c v
 free:H X.env.locals=none
 freeC:∀x c,X.env.cells.lookup x=some c->H c=none
 pin:∀p∈X.pn++A3,s.heap.get? p.1=some p.2/\H p.1=none/\p.1≠X.env.locals/\p.1∉X.fs/\∀v,p.2.data≠.cell v
 hok:HOk X.prog X.w H s.heap
 len:Y.length=X.N.length
section
variable{X:Cx}{A3:List 'p'}{Y:List (Option V)}{H H':Hp}{s:Shared}{h':Heap}
def Cx.Ok.nofr(ok:X.Ok)(e:X.base.get? b=some o):b∉X.fs:=λhb=>by
 have:=(ok.funs.mem hb).1;rw[e] at this;cases this
def Inv.bs(I:Inv X A3 Y H s):∀b o,X.base.get? b=some o->s.heap.get? b=some o/\H b=none:=λb o e=>
 {I.base.keep b o (I.ok.bs b o e).1 (I.ok.bs b o e).2 (I.ok.nofr e) (I.ok.noex b o e),I.base.free b o (I.ok.bs b o e).1 (I.ok.bs b o e).2 (I.ok.noex b o e)}
def Inv.bk(I:Inv X A3 Y H s):∀b o,X.base.get? b=some o->s.heap.get? b=some o:=λb o e=>(I.bs b o e).1
def Inv.mod(I:Inv X A3 Y H s):Mod X.K X.mg X.base:=I.ok.mod
def Inv.kIn(I:Inv X A3 Y H s):X.K.In s.heap:=I.ok.mod.kin.keeps I.bk
def Inv.lt(I:Inv X A3 Y H s):X.env.locals<s.heap.objs.size:=let ⟨_,hn,_⟩:=I.loc;hn.lt
def Inv.sz(I:Inv X A3 Y H s):X.s₀.heap.objs.size<=s.heap.objs.size:=Ap0 I.ok.above (Cq0 I.lt)
def Inv.nofs(I:Inv X A3 Y H s)(h:s.heap.objs.size<=a):a∉X.fs:=λhb=>by
 obtain⟨_,o,ho,_⟩:=I.ok.funs.mem hb;exact absurd (Az0 (Heap.lt_size ho) (Ap0 I.sz h)) (Bz0 _)
def Inv.cne(I:Inv X A3 Y H s):∀x c,X.env.cells.lookup x=some c->c≠X.env.locals:=λx c e z=>by
 obtain⟨v,o,ho,hd⟩:=I.cell x c e;obtain⟨m,⟨o',es,ep,ho',hd',_⟩,_⟩:=I.loc;rw[z,ho'] at ho;cases ho;rw[hd'] at hd;cases hd
def Inv.funs(I:Inv X A3 Y H s):s.heap.FunFrames X.base X.outer:=by
 have all:∀(l:List Env),(∀b∈frs l,b∈X.fs)->X.s₀.heap.FunFrames X.base l->s.heap.FunFrames X.base l:=by
  intro l;induction l with
  | nil=>intro _ _;trivial
  | cons env r ih=>
    intro hs hl;obtain⟨hk,⟨Lv0,o,hf,hn,ho,hd⟩,hr⟩:=hl;have hL:Lv0∈X.fs:=hs Lv0 (by unfold frs;rw[List.filterMap_cons,hf];exact Bi0);obtain⟨sl,e⟩:=I.base.slot Lv0 o ho (I.ok.frf Lv0 hL) hL λz=>I.ok.exfs Lv0 z hL
    exact{hk,{Lv0,_,hf,hn,e,hd},ih (λb hb=>hs b (by unfold frs;rw[List.filterMap_cons,hf];exact Bg0 _ hb)) hr}
 exact all X.outer (λ_ hb=>hb) I.ok.funs
def Inv.stack(I:Inv X A3 Y H s):s.heap.FunFrames X.base X.stack:=by
 rcases I.ok.stk with e | ⟨e,hf⟩
 ·rw[e];exact I.funs
 ·rw[e]
  obtain⟨m,hn,_⟩:=I.loc;refine .cons (by rw[I.ok.kind];decide) hf hn ?_ I.funs;exact Heap.get?_none_of_le (Ap0 I.ok.bsz I.ok.above)
def Inv.stkSub(I:Inv X A3 Y H s):∀b∈frs X.stack,b∈X.env.locals::X.fs:=λb hb=>by
 rcases I.ok.stk with e | ⟨e,hf⟩
 ·rw[e] at hb;exact Bg0 _ hb
 ·rw[e] at hb
  unfold frs at hb;rw[List.filterMap_cons,hf] at hb;exact hb
def Inv.stkFree(I:Inv X A3 Y H s):∀b∈frs X.stack,H b=none:=λb hb=>by
 rcases Aj0.mp (I.stkSub b hb) with e | hb
 ·rw[e];exact I.free
 ·obtain⟨_,o,ho,_⟩:=I.ok.funs.mem hb
  exact I.base.free b o ho (I.ok.frf b hb) λz=>I.ok.exfs b z hb
def Inv.step{g':Array GenState}{t':Nat}{d':Drawn}{ch:List Addr}(I:Inv X A3 Y H s)(hch:∀b∈ch,(b∈X.ex\/X.s₀.heap.objs.size<=b)/\b≠X.env.locals/\(∀x c,X.env.cells.lookup x=some c->c≠b)/\∀p∈X.pn++A3,p.1≠b)(keep:∀b o,b≠X.env.locals->b∉X.fs->b∉ch->s.heap.get? b=some o->H b=none->h'.get? b=some o)(slot:∀b o,b≠X.env.locals->b∈X.fs->b∉ch->s.heap.get? b=some o->H b=none->∃sl,h'.get? b=some { o with slots:=sl })(free:∀b o,b∉ch->s.heap.get? b=some o->H b=none->H' b=none)(there:∀b o,b∉ch->s.heap.get? b=some o->∃o',h'.get? b=some o')(tups:∀b xs,H b=some (.tup xs)->H' b=some (.tup xs))(frzs:∀b o u,H b=some (.frz o u)->H' b=some (.frz o u))(tbls:∀b ps,H b=some (.tbl ps)->∃more,H' b=some (.tbl (ps++more)))(ns:∀m,s.heap.Ns X.env.locals m->h'.Ns X.env.locals m)(hok:HOk X.prog X.w H' h')(hg:AllBare g') :
 Inv X A3 Y H' { s with heap:=h',gens:=g',drawn:=d',toks:=t' }:=by
 have neL:∀b o,X.s₀.heap.get? b=some o->b≠X.env.locals:=λb o e=>As0 (Az0 (Heap.lt_size e) I.ok.above)
 have neC:∀b o,X.s₀.heap.get? b=some o->b∉X.ex->b∉ch:=λb o e hx hb=>by
  rcases (hch b hb).1 with z | z
  ·exact hx z
  ·exact absurd (Az0 (Heap.lt_size e) z) (Bz0 _)
 have cellK:∀x c,X.env.cells.lookup x=some c->∀v,s.heap.IsCell c v->h'.IsCell c v:=λx c e v hI1=>by
  obtain⟨o,ho,hd⟩:=hI1;have nch:c∉ch:=λz=>(hch c z).2.2.1 x c e rfl
  by_cases hc:c∈X.fs
  ·obtain⟨sl,q⟩:=slot c o (I.cne x c e) hc nch ho (I.freeC x c e)
   exact{_,q,hd}
  ·exact{o,keep c o (I.cne x c e) hc nch ho (I.freeC x c e),hd}
 refine{I.ok,I.os,hg,{λb o e n hb hx=>?_,λb o e n hb hx=>?_,λb o e n hx=>?_,λb o e hx=>?_,λb xs e=>tups b xs (I.base.tups b xs e),λb o xs e=>frzs b o xs (I.base.frzs b o xs e),λb ps e=>?_},?_,λx c e=>?_,?_,λx c e=>?_,λp hp=>?_,hok,I.len}
 ·exact keep b o (neL b o e) hb (neC b o e hx) (I.base.keep b o e n hb hx) (I.base.free b o e n hx)
 ·obtain⟨sl,e1⟩:=I.base.slot b o e n hb hx
  obtain⟨sl',e2⟩:=slot b _ (neL b o e) hb (neC b o e hx) e1 (I.base.free b o e n hx);exact⟨sl',e2⟩
 ·obtain⟨o',e1⟩:=I.base.there b o e hx
  exact free b o' (neC b o e hx) e1 (I.base.free b o e n hx)
 ·obtain⟨o',e1⟩:=I.base.there b o e hx
  exact there b o' (neC b o e hx) e1
 ·obtain⟨m1,e1⟩:=I.base.tbls b ps e
  obtain⟨m2,e2⟩:=tbls b _ e1;exact{m1++m2,by rw[e2,Array.append_assoc]}
 ·obtain⟨m,hn,hl⟩:=I.loc
  refine{m,ns m hn,λi x v e1 e2 e3=>?_};obtain⟨u,r,l⟩:=hl i x v e1 e2 e3;refine{u,r,?_};rcases l with l | ⟨k,c,e,z⟩
  ·exact .inl l
  ·exact .inr {k,c,e,cellK x c e _ z}
 ·obtain⟨v,z⟩:=I.cell x c e
  exact{v,cellK x c e v z}
 ·obtain⟨m,⟨o,_,_,ho,_⟩,_⟩:=I.loc
  exact free _ o (λz=>(hch _ z).2.1 rfl) ho I.free
 ·obtain⟨v,o,ho,hd⟩:=I.cell x c e
  exact free c o (λz=>(hch c z).2.2.1 x c e rfl) ho (I.freeC x c e)
 ·obtain⟨e,n,ne,nf,d⟩:=I.pin p hp
  have nch:p.1∉ch:=λz=>(hch p.1 z).2.2.2 p hp rfl
  exact{keep p.1 p.2 ne nf nch e n,free p.1 p.2 nch e n,ne,nf,d}
def Inv.un{t':Nat}(I:Inv X A3 Y H s)(u:Un X.fs [] H H' s.heap h')(hok:HOk X.prog X.w H' h'):Inv X A3 Y H' { s with heap:=h',toks:=t' }:=by
 obtain⟨m,⟨o,es,ep,ho,r⟩,_⟩:=id I.loc;obtain⟨sl,hL⟩:=u.any ho I.free 'd';exact I.step (g':=s.gens) (d':=s.drawn) (ch:=[]) (λ_ z=>nomatch z) (λb o _ hb _ e n=>u.keep b o e n hb 'd') (λb o _ hb _ e n=>u.slot b o e n hb 'd') (λb o _ e n=>u.free b o e n 'd') (λb o _ e=>u.there b o e 'd') u.tups u.frzs u.tbls (λm' hm=>by
  obtain⟨o',es',ep',ho',r'⟩:=hm;rw[ho] at ho';cases ho';exact{_,es',ep',hL,r'}) hok I.bare
def Inv.call{g':Array GenState}{t':Nat}{d':Drawn}{ch:List Addr}(I:Inv X A3 Y H s)(u:Un (frs X.stack) ch H H' s.heap h')(hok:HOk X.prog X.w H' h')(hg:AllBare g')(hch:∀b∈ch,(b∈X.ex\/X.s₀.heap.objs.size<=b)/\b≠X.env.locals/\(∀x c,X.env.cells.lookup x=some c->c≠b)/\∀p∈X.pn++A3,p.1≠b) :
 Inv X A3 Y H' { s with heap:=h',gens:=g',drawn:=d',toks:=t' }:=by
 obtain⟨m,⟨o,es,ep,ho,r⟩,_⟩:=id I.loc;obtain⟨sl,hL⟩:=u.any ho I.free λz=>(hch _ z).2.1 rfl
 exact I.step (ch:=ch) hch (λb o hL hb hc e n=>u.keep b o e n (λz=>(Aj0.mp (I.stkSub b z)).elim hL hb) hc) (λb o _ _ hc e n=>u.any e n hc) (λb o hc e n=>u.free b o e n hc) (λb o hc e=>u.there b o e hc) u.tups u.frzs u.tbls (λm' hm=>by
  obtain⟨o',es',ep',ho',r'⟩:=hm;rw[ho] at ho';cases ho';exact{_,es',ep',hL,r'}) hok hg
def Inv.turned{t':Nat}{it:Addr}(I:Inv X A3 Y H s)(k:∀b o,b≠it->s.heap.get? b=some o->h'.get? b=some o)(hn:H it=none)(hL:it≠X.env.locals)(h1:it∈X.ex\/X.s₀.heap.objs.size<=it)(h2:∀x c,X.env.cells.lookup x=some c->c≠it)(h3:∀p∈X.pn++A3,p.1≠it):Inv X A3 Y H { s with heap:=h',toks:=t' }:=by
 have nit:∀b u,H b=some u->b≠it:=λb u e z=>by rw[z,hn] at e;cases e
 refine I.step (g':=s.gens) (d':=s.drawn) (ch:=[it]) (λb hb=>?_) (λb o _ _ hc e _=>k b o (λz=>hc (by simp[z])) e) (λb o _ _ hc e _=>{o.slots,k b o (λz=>hc (by simp[z])) e}) (λ_ _ _ _ n=>n)
  (λb o hc e=>{o,k b o (λz=>hc (by simp[z])) e}) (λ_ _ e=>e) (λ_ _ _ e=>e) (λb ps e=>{#[],by rw[e];simp}) (λm hm=>?_) (λb u e=>?_) I.bare
 ·have e:b=it:=by simpa using hb
  subst e;exact⟨h1,hL,h2,h3⟩
 ·obtain⟨o,es,ep,ho,r⟩:=hm
  exact{o,es,ep,k _ o (Ne.symm hL) ho,r}
 ·refine(I.hok b u e).stay (λc v hc q=>k c v ?_ q) (λ_ q=>q) λ_ _ q=>q
  rcases hc with z | z
  ·rw[z];exact nit b u e
  ·exact nit c _ z
def Inv.tok(I:Inv X A3 Y H s)(t:Nat):Inv X A3 Y H { s with toks:=t }:=I.un (h':=s.heap) (t':=t) Un.refl I.hok
def Inv.kept{t':Nat}(I:Inv X A3 Y H s)(k:∀b u,s.heap.get? b=some u->h'.get? b=some u):Inv X A3 Y H { s with heap:=h',toks:=t' }:=I.un (Un.kept k) (I.hok.kept k)
def Inv.laid{a:Addr}{o:HO}{t':Nat}(I:Inv X A3 Y H s)(k:∀b u,s.heap.get? b=some u->h'.get? b=some u)(hp:s.heap.objs.size<=a)(new:vd4 X.prog X.w (upd H a o) h' a o) :
 Inv X A3 Y (upd H a o) { s with heap:=h',toks:=t' }:=I.un (Un.laid k hp (I.hok.fresh hp)) (I.hok.laid k hp new)
def Inv.write{t':Nat}(I:Inv X A3 Y H s)(mu:Mut (H x))(he:e=x\/H e=some (.own x))(k:∀b u,b≠e->s.heap.get? b=some u->h'.get? b=some u)(heo:∃u,h'.get? e=some u)(new:vd4 X.prog X.w (upd H x o) h' x o):Inv X A3 Y (upd H x o) { s with heap:=h',toks:=t' }:=I.un (Un.write mu he k heo) (I.hok.write mu he k heo new)
def Inv.pins_of(I:Inv X A3 Y H s)(h:∀p∈pins',s.heap.get? p.1=some p.2/\H p.1=none/\p.1≠X.env.locals/\p.1∉X.fs/\∀v,p.2.data≠.cell v):Inv X pins' Y H s:=
 {I.ok,I.os,I.bare,I.base,I.loc,I.cell,I.free,I.freeC,λp hp=>(Ar0.mp hp).elim (λz=>I.pin p (By0 _ z)) (h p),I.hok,I.len}
def xe3{N:List Str}(hN:N.Nodup){i j:Nat}{x:Str}(a:N[i]?=some x)(b:N[j]?=some x):i=j:=by
 obtain⟨h1,e1⟩:=Ac0.mp a;obtain⟨h2,e2⟩:=Ac0.mp b;exact(List.getElem_inj hN).mp (e1.trans e2.symm)
def yr3{M:Model}{A:Around}{E:Value->Shared->Prop}{i:Nat}{x:Str}{v:V}{u:Value}{Q:Unit->Shared->Prop}(I:Inv X A3 Y H s)(hN:X.N.Nodup)(hi:X.N[i]?=some x)(hx:Loc X.env.scope x)(r:vc7 v u)(h:∀s',Inv X A3 (Y.set i (some v)) H s'->(∃a,Heap.SameBut a s.heap s'.heap/\(a=X.env.locals\/X.env.cells.lookup x=some a))->Q () s')(hf:X.fn x=true\/X.env.scope.names.lookup x=some .local:=by first | exact .inl rfl | exact .inr rfl | assumption):wpAny M A (storeName X.env x u) Q E s:=by
 obtain⟨m,hn,hl⟩:=id I.loc;have hcls:(X.env.scope.kind == .class||(X.env.scope.kind == .module&&X.env.locals != X.env.globals))=false:=by rw[I.ok.kind];rfl
 have hiσ:i<Y.length:=by rw[I.len];exact(Ac0.mp hi).1
 have cne:=I.cne;have tracked:∀{a:Addr} {h':Heap},(∃o,s.heap.get? a=some o/\H a=none)->Heap.SameBut a s.heap h'->HOk X.prog X.w H h':=λ{a h'} ha hs b ob e=>by
  obtain⟨_,_,hfree⟩:=ha;refine(I.hok b ob e).stay (λc w' hc q=>(hs.2 c ?_).trans q) (λ_ q=>q) λ_ _ q=>q
  rintro rfl;rcases hc with rfl | hc
  ·rw[hfree] at e;cases e
  ·rw[hfree] at hc;cases hc
 rcases hx with hk | hk
 ·refine wpAny_storeName_local hk hn (λh' hn' hs=>?_) hcls
  obtain⟨oL,_,_,hoL,_⟩:=id hn;refine h _ {I.ok,I.os,I.bare,{λb o e n hb hx=>?_,λb o e n hb hx=>?_,I.base.free,λb o e hx=>?_,I.base.tups,I.base.frzs,I.base.tbls},{_,hn',λj y v' e1 e2 e3=>?_},λy c e=>?_,I.free,I.freeC,λp hp=>?_,tracked ⟨oL,hoL,I.free⟩ hs,by simpa using I.len} {_,hs,.inl rfl}
  ·exact(hs.2 b (As0 (Az0 (Heap.lt_size e) I.ok.above))).trans (I.base.keep b o e n hb hx)
  ·obtain⟨sl,e1⟩:=I.base.slot b o e n hb hx
   exact{sl,(hs.2 b (As0 (Az0 (Heap.lt_size e) I.ok.above))).trans e1}
  ·obtain⟨o',e1⟩:=I.base.there b o e hx
   exact{o',(hs.2 b (As0 (Az0 (Heap.lt_size e) I.ok.above))).trans e1}
  ·by_cases hj:j=i
   ·subst hj
    rw[hi] at e1;cases e1;rw[Cx0 hiσ] at e2;cases e2;exact{u,r,.inl {hk,'d'}}
   ·rw[Ba0 (Ne.symm hj)] at e2
    obtain⟨u',r',q⟩:=hl j y v' e1 e2 e3;refine{u',r',?_};rcases q with⟨k,e⟩ | ⟨k,c,e,z⟩
    ·refine .inl {k,?_}
     have:y≠x:=λe=>hj (xe3 hN e1 (e▸hi))
     simp[this,e]
    ·exact .inr {k,c,e,z.sameBut hs (cne y c e)}
  ·obtain⟨w',z⟩:=I.cell y c e
   exact{w',z.sameBut hs (cne y c e)}
  ·obtain⟨e,n,ne,nf,d⟩:=I.pin p hp
   exact{(hs.2 p.1 ne).trans e,n,ne,nf,d}
 ·have hfn:X.fn x=true:=by
   rcases hf with z | z
   ·exact z
   ·rw[z] at hk;cases hk
  obtain⟨c,hc⟩:=I.ok.has x (.inl hk);obtain⟨w',z⟩:=I.cell x c hc;refine wpAny_storeName_cell I.ok.kind hk hc z (λh' hc' hs=>?_);obtain⟨oc,hoc,hocd⟩:=id z;refine h { s with heap:=h' } {I.ok,I.os,I.bare,{λb o e n hb hx=>?_,λb o e n hb hx=>?_,I.base.free,λb o e hx=>?_,I.base.tups,I.base.frzs,I.base.tbls},{m,hn.sameBut hs (Ne.symm (cne x c hc)),λj y v' e1 e2 e3=>?_},λy c' e=>?_,I.free,I.freeC,λp hp=>?_,tracked {oc,hoc,I.freeC x c hc} hs,by simpa using I.len} {c,hs,.inr hc}
  ·exact(hs.2 b (As0 (Az0 (Heap.lt_size e) (I.ok.cab x c hfn hc)))).trans (I.base.keep b o e n hb hx)
  ·obtain⟨sl,e1⟩:=I.base.slot b o e n hb hx
   exact{sl,(hs.2 b (As0 (Az0 (Heap.lt_size e) (I.ok.cab x c hfn hc)))).trans e1}
  ·obtain⟨o',e1⟩:=I.base.there b o e hx
   exact{o',(hs.2 b (As0 (Az0 (Heap.lt_size e) (I.ok.cab x c hfn hc)))).trans e1}
  ·by_cases hj:j=i
   ·subst hj
    rw[hi] at e1;cases e1;rw[Cx0 hiσ] at e2;cases e2;exact{u,r,.inr {.inl hk,c,hc,hc'}}
   ·rw[Ba0 (Ne.symm hj)] at e2
    obtain⟨u',r',q⟩:=hl j y v' e1 e2 e3;refine{u',r',?_};rcases q with q | ⟨k,c',e,z'⟩
    ·exact .inl q
    ·refine .inr {k,c',e,z'.sameBut hs ?_}
     rintro rfl;exact hj (xe3 hN e1 (I.ok.inj _ _ _ e hc▸hi))
  ·by_cases hcc:c'=c
   ·subst hcc;exact{_,hc'}
   ·obtain⟨w2,z2⟩:=I.cell y c' e
    exact{w2,z2.sameBut hs hcc}
  ·obtain⟨e,n,ne,nf,d⟩:=I.pin p hp
   refine{(hs.2 p.1 ?_).trans e,n,ne,nf,d};intro q;rw[q,hoc] at e;have q':oc=p.2:=Option.some.inj e;exact d w' (by rw[<-q'];exact hocd)
def zm1{M:Model}{A:Around}{E:Value->Shared->Prop}{i:Nat}{x:Str}{v:V}{u:Value}{Q:Unit->Shared->Prop}(I:Inv X A3 Y H s)(hN:X.N.Nodup)(hi:X.N[i]?=some x)(hx:Loc X.env.scope x)(r:vc7 v u)(h:∀s',Inv X A3 (Y.set i (some v)) H s'->Q () s')(hf:X.fn x=true\/X.env.scope.names.lookup x=some .local:=by first | exact .inl rfl | exact .inr rfl | assumption):wpAny M A (storeName X.env x u) Q E s:=
 yr3 I hN hi hx r (λs' I' _=>h s' I') hf
def Inv.call'(I:Inv X A3 Y H s)(ho:s'.os=s.os)(u:Un (frs X.stack) ch H H' s.heap s'.heap)(hok:HOk X.prog X.w H' s'.heap)(hg:AllBare s'.gens)(hch:∀b∈ch,(b∈X.ex\/X.s₀.heap.objs.size<=b)/\b≠X.env.locals/\(∀x c,X.env.cells.lookup x=some c->c≠b)/\∀p∈X.pn++A3,p.1≠b):Inv X A3 Y H' s':=by
 obtain⟨h',g',d',t',o'⟩:=s';have e:o'=s.os:=ho;subst e;exact I.call (g':=g') (t':=t') (d':=d') u hok hg hch
end
noncomputable abbrev XK:=Value->Option Addr->Hp->Prop
noncomputable abbrev St:=List (Option V)
noncomputable abbrev VK:=V->Hp->Prop
noncomputable abbrev TE:=St->Hp->VK->Prop
noncomputable abbrev TT:=St->Hp->(Bool->Hp->Prop)->Prop
noncomputable abbrev TA:=St->Hp->(List V->Hp->Prop)->Prop
structure vn9 where
 nx:St->Hp->Prop
 rt:VK
 bk:St->Hp->Prop:=λ_ _=>False
 ct:St->Hp->Prop:=λ_ _=>False
noncomputable abbrev TS:=vn9->St->Hp->Prop
instance EP(X:Cx)(A3:List 'p')(Y:St)(Q:VK)(u:Value)(s':Shared):Prop:=∃v H',Inv X A3 Y H' s'/\vc7 v u/\Q v H'
instance TP(X:Cx)(A3:List 'p')(Y:St)(Q:Bool->Hp->Prop)(b:Bool)(s':Shared):Prop:=∃H',Inv X A3 Y H' s'/\Q b H'
instance AP(X:Cx)(A3:List 'p')(Y:St)(Q:List V->Hp->Prop)(us:List Value)(s':Shared):Prop:=∃vs H',Inv X A3 Y H' s'/\vc8 vs us/\Q vs H'
open H in
instance SP(X:Cx)(A3:List 'p')(D:vn9)(f:Flow)(s':Shared):Prop:=
 match f with
 | .next=>∃Y' H',Inv X A3 Y' H' s'/\D.nx Y' H'
 | .brk=>∃Y' H',Inv X A3 Y' H' s'/\D.bk Y' H'
 | .cont=>∃Y' H',Inv X A3 Y' H' s'/\D.ct Y' H'
 | .ret u=>∃v Y' H',Inv X A3 Y' H' s'/\vc7 v u/\D.rt v H'
instance PE(X:Cx)(e:Expr)(t:TE):Prop:=
 ∀(A3:List 'p') (s:Shared) (Y:St) (H:Hp) (Q:VK),Inv X A3 Y H s->t Y H Q->wpAny 'e' X.A (eval e X.env) (EP X A3 Y Q) X.xe s
instance PT(X:Cx)(e:Expr)(t:TT):Prop:=
 ∀(A3:List 'p') (s:Shared) (Y:St) (H:Hp) (Q:Bool->Hp->Prop),Inv X A3 Y H s->t Y H Q->wpAny 'e' X.A (isTrue e X.env (eval e X.env)) (TP X A3 Y Q) X.xe s
instance PW(X:Cx)(e:Expr)(t:TT):Prop:=
 ∀(whole:Sem Value) (A3:List 'p') (s:Shared) (Y:St) (H:Hp) (Q:Bool->Hp->Prop),Inv X A3 Y H s->t Y H Q->wpAny 'e' X.A (isTrue e X.env whole) (TP X A3 Y Q) X.xe s
def PW.pt{X:Cx}{e:Expr}{t:TT}(h:PW X e t):PT X e t:=h _
instance PA(X:Cx)(es:List Expr)(t:TA):Prop:=
 ∀(pos:Pos) (A3:List 'p') (s:Shared) (Y:St) (H:Hp) (Q:List V->Hp->Prop),Inv X A3 Y H s->t Y H Q->wpAny 'e' X.A (spliced (backTo pos (starEach es X.env))) (AP X A3 Y Q) X.xe s
instance PS(X:Cx)(st:Stmt)(t:TS):Prop:=
 ∀(A3:List 'p') (s:Shared) (Y:St) (H:Hp) (D:vn9),Inv X A3 Y H s->t D Y H->wpAny 'e' X.A (exec st X.env) (SP X A3 D) X.xe s
instance PSs(X:Cx)(st:List Stmt)(t:TS):Prop:=
 ∀(A3:List 'p') (s:Shared) (Y:St) (H:Hp) (D:vn9),Inv X A3 Y H s->t D Y H->wpAny 'e' X.A (execs st X.env) (SP X A3 D) X.xe s
def thn{α:Type}{t:Sem α}{Q Q':α->Shared->Prop}{M:Model}{A:Around}{E:Value->Shared->Prop}{s:Shared}(h:wpAny M A t Q E s)(hQ:∀a s,Q a s->Q' a s):wpAny M A t Q' E s:=Ah1 h hQ λ_ _ x=>x
section
variable{X:Cx}
instance vj0(i:Nat):TE:=λY H Q=>∃v,Y[i]?=some (some v)/\Q v H
instance tC(v:V):TE:=λ_ H Q=>Q v H
def wv7{i:Nat}{x:Str}(hN:X.N[i]?=some x)(hv:Vis X.env.scope x)(hd:autoParam ((x == ("__debug__" : Str))=false) uD)(hcd:autoParam ((x == ("__classdict__" : Str))=false) uD):PE X (.Name x pos) (vj0 i):=by
 intro A3 s Y H Q I h;obtain⟨v,e,h⟩:=h;obtain⟨m,hn,hl⟩:=I.loc;obtain⟨u,r,l⟩:=hl i x v hN e hv;have fin:EP X A3 Y Q u s:=⟨v,H,I,r,h⟩;rcases l with⟨hk,hm⟩ | ⟨hk,c,hc,hcell⟩
 ·exact wpAny_Name (wpAny_loadName_local I.ok.kind hk hn hm fin) hd
 ·rcases hk with hk | hk
  ·exact wpAny_Name (wpAny_loadName_cell I.ok.kind hk hc hcell fin) hd
  ·exact wpAny_Name (wpAny_loadName_free I.ok.kind hk hc hcell fin hcd) hd
def zi4{i j pos}:PE X (.Constant (.int i) j pos) (tC (.int i)):=λ_ _ _ H _ I h=>wpAny_Constant_int {.int i,H,I.tok _,{_,rfl},h}
def uf0{b j pos}:PE X (.Constant (.bool b) j pos) (tC (.bl b)):=λ_ _ _ H _ I h=>Constant_bool {.bl b,H,I,rfl,h}
def ww0{j pos}:PE X (.Constant .none j pos) (tC .non):=λ_ _ _ H _ I h=>Constant_none {.non,H,I,rfl,h}
def zw0{x j pos}:PE X (.Constant (.str x) j pos) (tC (.str x)):=λ_ _ _ H _ I h=>Calls.Constant_str {.str x,H,I.tok _,{_,rfl},h}
instance Gl(X:Cx)(x:Str):Prop:=X.env.kindOf x=some .globalImplicit
def xu0{E:Value->Shared->Prop}{A3:List 'p'}{s:Shared}{Y:St}{H:Hp}{x:Str}{u:Value}{pos:Pos}{Q:Value->Shared->Prop}(I:Inv X A3 Y H s)(hg:Gl X x)(hm:X.mg x=some u)(h:Q u s)(hd:autoParam ((x == ("__debug__" : Str))=false) uD):wpAny 'e' X.A (eval (.Name x pos) X.env) Q E s:=
 Calls.Name_function_global I.ok.kind hg (Calls.loadGlobal_global (by rw[I.ok.glob];exact I.mod.glob.keeps I.bk) hm h) hd
def zz8{E:Value->Shared->Prop}{A3:List 'p'}{s:Shared}{Y:St}{H:Hp}{x:Str}{u:Value}{pos:Pos}{Q:Value->Shared->Prop}(I:Inv X A3 Y H s)(hg:Gl X x)(hm:X.mg x=none)(hv:bootBuiltins x=some u)(h:Q u s)(hn:autoParam (x≠"__name__") uD)(hd:autoParam ((x == ("__debug__" : Str))=false) uD):wpAny 'e' X.A (eval (.Name x pos) X.env) Q E s:=by
 obtain⟨mb,h1,h2⟩:=I.mod.blt;exact Calls.Name_function_global I.ok.kind hg (Calls.loadGlobal_builtin (by rw[I.ok.glob];exact I.mod.glob.keeps I.bk) hm (by rw[I.ok.blt];exact h1.keeps I.bk) ((h2 x hn).trans hv) h) hd
def xr1{x:Str}(hg:Gl X x)(hm:X.mg x=some u)(r:vc7 v u)(hd:autoParam ((x == ("__debug__" : Str))=false) uD):PE X (.Name x pos) (tC v):=
 λ_ _ _ H _ I h=>xu0 I hg hm ⟨v,H,I,r,h⟩ hd
def wo2{x:Str}(hg:Gl X x)(hm:X.mg x=none)(hv:bootBuiltins x=some u)(r:vc7 v u)(hn:autoParam (x≠"__name__") uD)(hd:autoParam ((x == ("__debug__" : Str))=false) uD):PE X (.Name x pos) (tC v):=
 λ_ _ _ H _ I h=>zz8 I hg hm hv ⟨v,H,I,r,h⟩ hn hd
variable{a b:Expr}{ta tb:TE}{pos:Pos}
instance PC(X:Cx)(op:CmpOp)(a b:Expr)(t:TE):Prop:=
 ∀(A3:List 'p') (s:Shared) (Y:St) (H:Hp) (Q:VK),Inv X A3 Y H s->t Y H Q->
  wpAny 'e' X.A (eval a X.env) (λv s₁=>wpAny 'e' X.A (eval b X.env) (λu s₂=>wpAny 'e' X.A (compareOp op v u) (EP X A3 Y Q) X.xe s₂) X.xe s₁) X.xe s
instance tB(t:TE):TT:=λY H Q=>t Y H λx H1=>∃c,x=.bl c/\Q c H1
def ww1(h:PC X op a b t)(h1:behindInMarks op b=false:=by first | exact nobehind _ 'z' 'z' | rfl):PE X (.Compare a [op] [b] pos) t:=λA3 s Y H Q I hw=>wpAny_Compare1 (h A3 s Y H Q I hw) h1
def xq0{op:CmpOp}{t:TE}(h:PC X op a b t)(h1:behindInMarks op b=false:=by first | exact nobehind _ 'z' 'z' | rfl):PT X (.Compare a [op] [b] pos) (tB t):=by
 intro A3 s Y H Q I hw;refine wpAny_isTrue_Compare1 (thn (h A3 s Y H _ I hw) λv s1 h1=>thn h1 λu s2 h2=>thn h2 λc s3 hI57=>?_) h1;obtain⟨x,H1,I1,r1,q1⟩:=hI57;obtain⟨d,rfl,q⟩:=q1;cases r1;exact Ai1 ⟨H1,I1,q⟩
def wu9{e:Expr}{t:TE}(h:PE X e t)(he:∀whole,isTrue e X.env whole=(do let v <-whole;standAt e.pos;holding [v] (truthy v)):=by intro _;rfl):PT X e (tB t):=by
 intro A3 s Y H Q I hw;refine isTrue_plain (thn (h A3 s Y H _ I hw) λv s1 hI58=>?_) (he _);obtain⟨x,H1,I1,r1,q1⟩:=hI58;obtain⟨d,rfl,q⟩:=q1;cases r1;exact Ai1 ⟨H1,I1,q⟩
variable{tA tB':TT}{rest:List Expr}
instance um5(t u:TT):TT:=λY H Q=>t Y H λc H1=>if c=true then u Y H1 Q else Q false H1
instance tOr(t u:TT):TT:=λY H Q=>t Y H λc H1=>if c=true then Q true H1 else u Y H1 Q
instance ul9(t:TT):TT:=λY H Q=>t Y H λc H1=>Q (!c) H1
theorem pw_and1(ha:PT X a tA):PW X (.BoolOp .And [a] pos) tA:=by
 intro wh A3 s Y H Q I h;refine isTrue_and (thn (ha A3 s Y H Q I h) λc s1 e=>?_);cases c with
 | true=>exact isTrue_and_nil e
 | false=>exact e
theorem pw_or1(ha:PT X a tA):PW X (.BoolOp .Or [a] pos) tA:=by
 intro wh A3 s Y H Q I h;refine isTrue_or (thn (ha A3 s Y H Q I h) λc s1 e=>?_);cases c with
 | false=>exact isTrue_or_nil e
 | true=>exact e
theorem pw_and(ha:PT X a tA)(hb:PW X (.BoolOp .And (b::rest) pos) tB'):PW X (.BoolOp .And (a::b::rest) pos) (um5 tA tB'):=by
 intro wh A3 s Y H Q I h;refine isTrue_and (thn (ha A3 s Y H _ I h) λc s1 hI59=>?_);obtain⟨H1,I1,q1⟩:=hI59;cases c with
 | true=>exact hb wh A3 s1 Y H1 Q I1 q1
 | false=>exact⟨H1,I1,q1⟩
theorem pw_or(ha:PT X a tA)(hb:PW X (.BoolOp .Or (b::rest) pos) tB'):PW X (.BoolOp .Or (a::b::rest) pos) (tOr tA tB'):=by
 intro wh A3 s Y H Q I h;refine isTrue_or (thn (ha A3 s Y H _ I h) λc s1 hI60=>?_);obtain⟨H1,I1,q1⟩:=hI60;cases c with
 | true=>exact⟨H1,I1,q1⟩
 | false=>exact hb wh A3 s1 Y H1 Q I1 q1
def wv0(ha:PT X a tA):PT X (.UnaryOp .Not a pos) (ul9 tA):=by
 intro A3 s Y H Q I h;exact isTrue_not (ha A3 s Y H (λc H1=>Q (!c) H1) I h)
instance ud6(ta tb:TE):TE:=λY H Q=>ta Y H λx H1=>∃c,x=.bl c/\if c=true then tb Y H1 Q else Q (.bl false) H1
instance ud1(ta:TE):TE:=λY H Q=>ta Y H λx H1=>∃c,x=.bl c/\Q (.bl (!c)) H1
def wv8{op}(h:PE X a t):PE X (.BoolOp op [a] pos) t:=λA3 s Y H Q I hw=>BoolOp_one (h A3 s Y H Q I hw)
theorem ww2(ha:PE X a ta)(hb:PE X (.BoolOp .And (b::rest) pos) tb):PE X (.BoolOp .And (a::b::rest) pos) (ud6 ta tb):=by
 intro A3 s Y H Q I h;refine BoolOp_and (thn (ha A3 s Y H _ I h) λv s1 hI61=>?_);obtain⟨x,H1,I1,r1,q1⟩:=hI61;obtain⟨c,rfl,q1⟩:=q1;cases r1;refine Ai1 ?_;cases c with
 | true=>exact hb A3 s1 Y H1 Q I1 q1
 | false=>exact{.bl false,H1,I1,rfl,q1}
def wv9(ha:PE X a ta):PE X (.UnaryOp .Not a pos) (ud1 ta):=by
 intro A3 s Y H Q I h;refine UnaryOp_ (thn (ha A3 s Y H _ I h) λv s1 hI62=>?_);obtain⟨x,H1,I1,r1,q1⟩:=hI62;obtain⟨c,rfl,q1⟩:=q1;cases r1;exact not_of (Ai1 {.bl (!c),H1,I1,rfl,q1})
end
instance SqL(K:PySem.W.Frag)(H:Hp)(a:Addr)(xs:List V):Prop:=
 Rd H a (.lst xs)\/
  ∃(o:Obj) (its:Array Value) (n:Nat),K.lookup a=some o/\o.cls=.type "list"/\o.dict=none/\o.data=.seq its n/\its.size<=sizeLine/\vc8 xs its.toList
instance SqT(K:PySem.W.Frag)(H:Hp)(a:Addr)(xs:List V):Prop:=
 Rd H a (.tup xs)\/
  ∃(o:Obj) (its:Array Value) (n:Nat),K.lookup a=some o/\o.cls=.type "tuple"/\o.data=.seq its n/\its.size<=sizeLine/\vc8 xs its.toList
instance uo1:Value->Option V
 | .none=>some .non
 | .bool b=>some (.bl b)
 | .int i _=>some (.int i)
 | .str x _=>some (.str x)
 | .bytes b _=>some (.byt b)
 | .float b _=>some (.flt b)
 | .ref a=>some (.ref a)
 | .type n=>some (.ty n)
 | _=>none
theorem vc7.abs(r:vc7 x u):uo1 u=some x:=by
 cases x with
 | non=>cases r;rfl
 | bl _=>cases r;rfl
 | int _=>obtain⟨t,rfl⟩:=r;rfl
 | str _=>obtain⟨t,rfl⟩:=r;rfl
 | byt _=>obtain⟨t,rfl⟩:=r;rfl
 | flt _=>obtain⟨t,rfl⟩:=r;rfl
 | ref _=>cases r;rfl
 | ty _=>cases r;rfl
def vc7.inj(r:vc7 x u)(q:vc7 y u):x=y:=Option.some.inj (r.abs.symm.trans q.abs)
theorem vc8.inj:∀{xs ys:List V} {us:List Value},vc8 xs us->vc8 ys us->xs=ys
 | _,_,_,.nil,.nil=>rfl
 | _,_,_,.cons r t,.cons r' t'=>by rw[r.inj r',vc8.inj t t']
def SqL.of{K:PySem.W.Frag}(h:H a=some (.lst xs)):SqL K H a xs:=.inl (.inl h)
def SqT.of{K:PySem.W.Frag}(h:H a=some (.tup xs)):SqT K H a xs:=.inl (.inl h)
def Inv.list(I:Inv X A3 Y H s)(h:SqL X.K H a xs):∃its:List Value,vc8 xs its/\PlainL s.heap a its.toArray/\xs.length<=sizeLine:=by
 rcases h with h | ⟨o,its,n,hk,hc,hd,hs,hz,r⟩
 ·obtain⟨z,its,n,r,e⟩:=h.ok I.hok
  exact{its,r,{_,n,e,rfl,rfl,rfl},z}
 ·refine{its.toList,r,{o,n,I.kIn a o hk,hc,hd,by simpa using hs},?_}
  have e:=r.length;simp only[Aw0] at e;omega
def Inv.tuple(I:Inv X A3 Y H s)(h:SqT X.K H a xs):∃its:List Value,vc8 xs its/\IsTup s.heap a its.toArray/\xs.length<=sizeLine:=by
 rcases h with h | ⟨o,its,n,hk,hc,hs,hz,r⟩
 ·obtain⟨z,its,r,p,_⟩:=h.ok I.hok
  exact⟨its,r,p,z⟩
 ·refine{its.toList,r,{o,I.kIn a o hk,hc,n,by simpa using hs},?_}
  have e:=r.length;simp only[Aw0] at e;omega
def Inv.list_inj(I:Inv X A3 Y H s)(h:SqL X.K H a xs)(h':SqL X.K H a ys):xs=ys:=by
 obtain⟨its,r,⟨o,n,e,_,_,d⟩,_⟩:=I.list h;obtain⟨its',r',⟨o',n',e',_,_,d'⟩,_⟩:=I.list h';rw[e] at e';cases e';rw[d] at d';injection d' with d1 _
 have:its=its':=by simpa using congrArg Array.toList d1
 subst this;exact r.inj r'
def Inv.tuple_inj(I:Inv X A3 Y H s)(h:SqT X.K H a xs)(h':SqT X.K H a ys):xs=ys:=by
 obtain⟨its,r,⟨o,e,_,n,d⟩,_⟩:=I.tuple h;obtain⟨its',r',⟨o',e',_,n',d'⟩,_⟩:=I.tuple h';rw[e] at e';cases e';rw[d] at d';injection d' with d1 _
 have:its=its':=by simpa using congrArg Array.toList d1
 subst this;exact r.inj r'
noncomputable abbrev Cx.wish(X:Cx)(E:Value->Shared->Prop):Cx:={ X with xe:=E }
noncomputable abbrev Cx.nox(X:Cx):Cx:=X.wish λ_ _=>False
def Cx.Ok.wish{X:Cx}(ok:X.Ok)(E:Value->Shared->Prop):(X.wish E).Ok:=
 ⟨ok.mod,ok.kind,ok.glob,ok.blt,ok.above,ok.inj,ok.has,ok.cab,ok.hd,ok.frames,ok.stk,ok.exf,ok.bs,ok.bsz,ok.noex,ok.exfs,ok.funs,ok.frf⟩
def Cx.Ok.unwish{X:Cx}{E:Value->Shared->Prop}(ok:(X.wish E).Ok):X.Ok:=
 ⟨ok.mod,ok.kind,ok.glob,ok.blt,ok.above,ok.inj,ok.has,ok.cab,ok.hd,ok.frames,ok.stk,ok.exf,ok.bs,ok.bsz,ok.noex,ok.exfs,ok.funs,ok.frf⟩
def Inv.wish(I:Inv X A3 Y H s)(E:Value->Shared->Prop):Inv (X.wish E) A3 Y H s:={I.ok.wish E,I.os,I.bare,I.base,I.loc,I.cell,I.free,I.freeC,I.pin,I.hok,I.len}
def Inv.unwish(I:Inv (X.wish E) A3 Y H s):Inv X A3 Y H s:=⟨I.ok.unwish,I.os,I.bare,I.base,I.loc,I.cell,I.free,I.freeC,I.pin,I.hok,I.len⟩
open H in
theorem SP.unwish(h:SP (X.wish E) A3 D f s'):SP X A3 D f s':=by
 cases f with
 | next=>obtain⟨Y',H',I,q⟩:=h;exact⟨Y',H',I.unwish,q⟩
 | brk=>obtain⟨Y',H',I,q⟩:=h;exact⟨Y',H',I.unwish,q⟩
 | cont=>obtain⟨Y',H',I,q⟩:=h;exact⟨Y',H',I.unwish,q⟩
 | ret u=>obtain⟨v,Y',H',I,r,q⟩:=h;exact⟨v,Y',H',I.unwish,r,q⟩
def PSs.nox{st:List Stmt}{t:TS}(h:PSs X.nox st t):PSs X st t:=λA3 s Y H D I hw=>
 Ah1 (h A3 s Y H D (I.wish _) hw) (λ_ _ q=>q.unwish) λ_ _ z=>False.elim z
section
variable{X:Cx}{st:Stmt}{rest:List Stmt}{t u:TS}{e:Expr}{te:TE}{pos:Pos}
instance ud3:TS:=λD Y H=>D.nx Y H
instance ul6(t u:TS):TS:=λD Y H=>t { D with nx:=u D } Y H
def yy0:PSs X [] ud3:=λ_ _ Y H _ I h=>wpAny_execs_nil ⟨Y,H,I,h⟩
open H in
theorem zg9(h1:PS X st t)(h2:PSs X rest u):PSs X (st::rest) (ul6 t u):=by
 intro A3 s Y H D I h;refine wpAny_execs_cons (thn (h1 A3 s Y H { D with nx:=u D } I h) λf s1 q=>?_);cases f with
 | next=>
   obtain⟨Y',H',I',q⟩:=q;exact h2 A3 s1 Y' H' D I' q
 | ret v=>exact q
 | brk=>exact q
 | cont=>exact q
open H in
theorem yd4(h1:PS X st t):PSs X [st] t:=by
 intro A3 s Y H D I h;refine wpAny_execs_cons (thn (h1 A3 s Y H D I h) λf s1 q=>?_);cases f with
 | next=>exact wpAny_execs_nil q
 | ret v=>exact q
 | brk=>exact q
 | cont=>exact q
def Inv.quiet{A3:List 'p'}{Y:St}{H:Hp}{s:Shared}(I:Inv X A3 Y H s):interactive X.env=false:=by simp[interactive,I.ok.kind]
instance ud4(te:TE):TS:=λD Y H=>te Y H λ_ H1=>D.nx Y H1
def xq1(he:PE X e te)(hs:autoParam (swapsWith e none pos.line X.env=pure false) uR):PS X (.Expr e pos) (ud4 te):=by
 intro A3 s Y H D I h;exact wpAny_Expr_any (thn (he A3 s Y H _ I h) λv s1 ⟨x,H1,I1,r1,q1⟩=>⟨Y,H1,I1,q1⟩) I.quiet hs
instance ul7(te:TE):TS:=λD Y H=>te Y H D.rt
def yi5(he:PE X e te):PS X (.Return (some e) pos) (ul7 te):=by
 intro A3 s Y H D I h;exact wpAny_Return_some (thn (he A3 s Y H _ I h) λv s1 ⟨x,H1,I1,r1,q1⟩=>⟨x,Y,H1,I1,r1,q1⟩)
instance um1(c:TT)(t u:TS):TS:=λD Y H=>c Y H λb H1=>if b=true then t D Y H1 else u D Y H1
theorem vt6{c:Expr}{a b:List Stmt}{tc:TT}(hc:PT X c tc)(ha:PSs X a t)(hb:PSs X b u):PS X (.If c a b pos) (um1 tc t u):=by
 intro A3 s Y H D I h;refine wpAny_If (thn (hc A3 s Y H _ I h) λd s1 hI63=>?_);obtain⟨H1,I1,q1⟩:=hI63;cases d with
 | true=>exact ha A3 s1 Y H1 D I1 q1
 | false=>exact hb A3 s1 Y H1 D I1 q1
end
noncomputable abbrev TG:=V->St->Hp->(St->Hp->Prop)->Prop
noncomputable abbrev TGs:=List V->St->Hp->(St->Hp->Prop)->Prop
instance PG(X:Cx)(target:Expr)(t:TG):Prop:=
 ∀(A3:List 'p') (s:Shared) (Y:St) (H:Hp) (v:V) (u:Value) (Q:St->Hp->Prop),Inv X A3 Y H s->vc7 v u->t v Y H Q->
  wpAny 'e' X.A (assign target X.env u) (λ_ s'=>∃Y' H',Inv X A3 Y' H' s'/\Q Y' H') X.xe s
instance PGs(X:Cx)(ts:List Expr)(t:TGs):Prop:=
 ∀(A3:List 'p') (s:Shared) (Y:St) (H:Hp) (vs:List V) (us:List Value) (Q:St->Hp->Prop),Inv X A3 Y H s->vc8 vs us->t vs Y H Q->
  wpAny 'e' X.A (assignInOrder ((assignEach ts X.env).map (·.2)) us) (λ_ s'=>∃Y' H',Inv X A3 Y' H' s'/\Q Y' H') X.xe s
noncomputable abbrev ui5:=V->V->V->Hp->(Hp->Prop)->Prop
instance ul2(X:Cx)(t:ui5):Prop:=
 ∀(A3:List 'p') (s:Shared) (Y:St) (H:Hp) (o i v:V) (ov iv u:Value) (Q:Hp->Prop),Inv X A3 Y H s->vc7 o ov->vc7 i iv->vc7 v u->t o i v H Q->
  wpAny 'e' X.A (setItem ov iv u) (λ_ s'=>∃H',Inv X A3 Y H' s'/\Q H') X.xe s
noncomputable abbrev TIp:=V->V->Hp->VK->Prop
instance PIp(X:Cx)(op:Operator)(t:TIp):Prop:=
 ∀(A3:List 'p') (s:Shared) (Y:St) (H:Hp) (x y:V) (v u:Value) (Q:VK),Inv X A3 Y H s->vc7 x v->vc7 y u->t x y H Q->
  wpAny 'e' X.A (inplaceOp op v u) (EP X A3 Y Q) X.xe s
instance vn4(i:Nat):TG:=λv Y H Q=>Q (Y.set i (some v)) H
def ym4{i:Nat}{x:Str}(hN:X.N.Nodup)(hi:X.N[i]?=some x)(hx:Loc X.env.scope x)(hf:X.fn x=true\/X.env.scope.names.lookup x=some .local:=by first | exact .inl rfl | exact .inr rfl | assumption):PG X (.Name x pos) (vn4 i):=by
 intro A3 s Y H v u Q I r h;exact wpAny_assign_Name (zm1 I hN hi hx r (λs' I'=>{_,H,I',h}) hf)
instance un3:TGs:=λvs Y H Q=>vs=[]/\Q Y H
instance ug6(t:TG)(u:TGs):TGs:=λvs Y H Q=>∃v r,vs=v::r/\t v Y H λY' H'=>u r Y' H' Q
def yy3:PGs X [] un3:=by
 intro A3 s Y H vs us Q I r h;obtain⟨e,h⟩:=h;subst e;cases r;exact assignInOrder_nil ⟨Y,H,I,h⟩
theorem zv9{e:Expr}{es:List Expr}{t:TG}{u:TGs}(h1:PG X e t)(h2:PGs X es u)(hs:autoParam ((assignEach (e::es) X.env).map (·.2)=assign e X.env::(assignEach es X.env).map (·.2)) uR):PGs X (e::es) (ug6 t u):=by
 intro A3 s Y H vs us Q I r h;obtain⟨v,vr,e1,h⟩:=h;subst e1;cases r with
 | cons r rr=>
   rw[hs];refine assignInOrder_cons (thn (h1 A3 s Y H _ _ _ I r h) λ_ s1 hI64=>?_);obtain⟨Y1,H1,I1,q1⟩:=hI64;exact h2 A3 s1 Y1 H1 _ _ Q I1 rr q1
instance un2(K:PySem.W.Frag)(n:Nat)(t:TGs):TG:=λv Y H Q=>∃a xs,v=.ref a/\SqT K H a xs/\xs.length=n/\t xs Y H Q
def xq9{k:Nat}{n:Nat}(hc:X.calm=true)(h:PGs X es t)(hn:autoParam ((assignEach es X.env).length=n) uR)(hst:autoParam ((assignEach es X.env).findIdx? (·.1)=none) uR):PG X (.Tuple es k pos) (un2 X.K n t):=by
 intro A3 s Y H v u Q I r hw;obtain⟨a,xs,e1,hq,hl,hw⟩:=hw;subst e1;cases r;obtain⟨its,rv,ht,hz⟩:=I.tuple hq;refine assign_Tuple_tuple (I.ok.hd hc) ht (by simp[hn,<-hl,rv.length]) hst λh' hx=>?_
 have I1:Inv X A3 Y H { s with heap:=h' }:=I.kept (t':=s.toks) λb o e=>hx b o (As0 (Heap.lt_size e)) e
 exact h A3 _ Y H xs _ Q I1 (by simpa using rv) hw
instance uk2(to ti:TE)(t:ui5):TG:=λv Y H Q=>to Y H λo H1=>ti Y H1 λi H2=>t o i v H2 λH3=>Q Y H3
def wi1{o i:Expr}{to ti:TE}{t:ui5}(ho:PE X o to)(hi:PE X i ti)(hs:ul2 X t)(ha:∀v,assign (.Subscript o i pos) X.env v=(do
  let ov <-holding [v] (eval o X.env)
  let iv <-holding [v,ov] (eval i X.env)
  standAt pos
  holding [v,ov,iv] (setItem ov iv v)
  release [v,ov,iv] []):=by intro _;rfl):PG X (.Subscript o i pos) (uk2 to ti t):=by
 intro A3 s Y H v u Q I r h;rw[ha];refine Aa1 (wpAny_holding (thn (ho A3 s Y H _ I h) λov s1 hI65=>?_));obtain⟨x,H1,I1,r1,q1⟩:=hI65;refine Aa1 (wpAny_holding (thn (hi A3 s1 Y H1 _ I1 q1) λiv s2 hI66=>?_));obtain⟨y,H2,I2,r2,q2⟩:=hI66;refine Aa1 (wpAny_standAt (Aa1 (wpAny_holding (thn (hs A3 s2 Y H2 x y v ov iv u _ I2 r1 r2 r q2) λ_ s3 hI67=>?_))));obtain⟨H3,I3,q3⟩:=hI67;exact wpAny_release ⟨Y,H3,I3,q3⟩
instance vw7(te:TE)(g:TG):TS:=λD Y H=>te Y H λx H1=>g x Y H1 D.nx
def xd1{tg e:Expr}{te:TE}{g:TG}(he:PE X e te)(hg:PG X tg g)(hs:autoParam (swapsWithSole [tg] e pos.line X.env=pure false) uR)(hw:autoParam (swappedStores [tg] e X.env=pure none) uR)(h1:autoParam ((assignEach [tg] X.env).map (·.2)=[assign tg X.env]) uR):PS X (.Assign [tg] e pos) (vw7 te g):=by
 intro A3 s Y H D I h;refine wpAny_Assign_stores (thn (he A3 s Y H _ I h) λv s1 hI68=>?_) hs hw;obtain⟨x,H1,I1,r1,q1⟩:=hI68;rw[h1];exact thn (hg A3 s1 Y H1 x v _ I1 r1 q1) λ_ s2 q=>q
def zr2{i:Nat}{x:Str}{e:Expr}{te:TE}{pos':Pos}(hN:X.N.Nodup)(hi:X.N[i]?=some x)(hx:Loc X.env.scope x)(he:PE X e te)(hs:autoParam (swapsWith e (some (.Name x pos')) pos.line X.env=pure false) uR)(hf:X.fn x=true\/X.env.scope.names.lookup x=some .local:=by first | exact .inl rfl | exact .inr rfl | assumption) :
 PS X (.Assign [.Name x pos'] e pos) (vw7 te (vn4 i)):=by
 intro A3 s Y H D I h;refine wpAny_Assign_Name (thn (he A3 s Y H _ I h) λv s1 hI69=>?_) hs;obtain⟨y,H1,I1,r1,q1⟩:=hI69;exact zm1 I1 hN hi hx r1 (λs2 I2=>{_,H1,I2,q1}) hf
instance ul8(i j:Nat)(ta:TA):TS:=λD Y H=>ta Y H λvs H1=>∃v w,vs=[v,w]/\D.nx ((Y.set i (some v)).set j (some w)) H1
def wv1{i j:Nat}{x y:Str}{a b:Expr}{ta:TA}{px py pt:Pos}{kt k2 pt2}(hc:X.calm=true)(hN:X.N.Nodup)(hi:X.N[i]?=some x)(hj:X.N[j]?=some y)(hij:i≠j)(hx:X.env.scope.names.lookup x=some .local)(hy:X.env.scope.names.lookup y=some .local)(ha:PA X [a,b] ta)(hw:swappedStores [.Tuple [.Name x px,.Name y py] kt pt] (.Tuple [a,b] k2 pt2) X.env=pure (some [x,y]))(hs:autoParam (swapsWithSole [.Tuple [.Name x px,.Name y py] kt pt] (.Tuple [a,b] k2 pt2) pos.line X.env=pure false) uR) :
 PS X (.Assign [.Tuple [.Name x px,.Name y py] kt pt] (.Tuple [a,b] k2 pt2) pos) (ul8 i j ta):=by
 intro A3 s Y H D I h;rw[exec_Assign_arm];refine Aa1 (wpAny_standAt ?_);rw[hs];refine Aa1 (Ac1 ?_);rw[if_neg 'z'];refine Aa1 (Tuple_ (thn (ha _ A3 s Y H _ I h) λus s1 hI70=>?_));obtain⟨vs,H1,I1,r1,q1⟩:=hI70;obtain⟨v,w,e1,q1⟩:=q1;subst e1;obtain⟨u1,u2,rfl,rv,rw'⟩:∃u1 u2,us=[u1,u2]/\vc7 v u1/\vc7 w u2:=by
  cases r1 with
  | cons p q=>
    cases q with
    | cons p' q'=>
      cases q';exact{_,_,rfl,p,p'}
 refine wpAny_newObj_type ?_ (by show 2<=sizeLine;decide);have I2:Inv X A3 Y H1 { s1 with heap:=s1.heap.push { cls:=.type "tuple",data:=.seq [u1,u2].toArray } }:=I1.kept (t':=s1.toks) λb o e=>Ab0 _ e
 rw[hw];refine Aa1 (Ac1 ?_);show wpAny 'e' X.A (do rule "assign.swapped-stores";let items <-unpackItems (.ref s1.heap.objs.size) 2 none;assignInOrder [λv=>bindName X.env y v,λv=>bindName X.env x v] items.reverse;pure Flow.next) _ _ _;refine Aa1 (Aj1 (Aa1 (unpackItems_tuple (items:=#[u1,u2]) (I.ok.hd hc) (IsTup.new s1.heap _) λh' hx'=>?_)));have I3:=I2.kept (h':=h') (t':=s1.toks) λb o e=>hx' b o (As0 (Heap.lt_size e)) e
 show wpAny _ _ (assignInOrder [λv=>bindName X.env y v,λv=>bindName X.env x v] [u2,u1] >>= λ_=>pure Flow.next) _ _ _;refine Aa1 (assignInOrder_cons (wpAny_bindName (zm1 I3 hN hj (.inl hy) rw' (λs2 I4=>?_) (.inr hy))));refine assignInOrder_cons (wpAny_bindName (zm1 I4 hN hi (.inl hx) rv (λs3 I5=>assignInOrder_nil (Ac1 ?_)) (.inr hx)));rw[List.set_comm _ _ (Ne.symm hij)] at I5;exact{_,H1,I5,q1}
instance um4(i:Nat)(te:TE)(ti:TIp):TS:=λD Y H=>∃x,Y[i]?=some (some x)/\te Y H λy H1=>ti x y H1 λz H2=>D.nx (Y.set i (some z)) H2
def wv3{i:Nat}{x:Str}{e:Expr}{te:TE}{op:Operator}{ti:TIp}{pos':Pos}(hN:X.N.Nodup)(hi:X.N[i]?=some x)(hx:Loc X.env.scope x)(he:PE X e te)(ho:PIp X op ti)(hf:X.fn x=true\/X.env.scope.names.lookup x=some .local:=by first | exact .inl rfl | exact .inr rfl | assumption) :
 PS X (.AugAssign (.Name x pos') op e pos) (um4 i te ti):=by
 intro A3 s Y H D I h;obtain⟨v,e1,h⟩:=h;obtain⟨m,hn,hl⟩:=I.loc;have vis:Vis X.env.scope x:=by rcases hx with k | k;exact .inl k;exact .inr (.inl k)
 obtain⟨u,r,l⟩:=hl i x v hi e1 vis;refine wpAny_AugAssign_Name ?_;have go:wpAny 'e' X.A (eval e X.env) (λw s₂=>wpAny 'e' X.A (inplaceOp op u w) (λr s₃=>wpAny 'e' X.A (storeName X.env x r) (λ_=>SP X A3 D .next) X.xe s₃) X.xe s₂) X.xe s:=by
  refine thn (he A3 s Y H _ I h) λw s1 hI71=>?_
  obtain⟨y,H1,I1,r1,q1⟩:=hI71;refine thn (ho A3 s1 Y H1 v y u w _ I1 r r1 q1) λz s2 hI72=>?_
  obtain⟨zv,H2,I2,r2,q2⟩:=hI72;exact zm1 I2 hN hi hx r2 (λs3 I3=>{_,H2,I3,q2}) hf
 rcases l with⟨hk,hm⟩ | ⟨hk,c,hc,hcell⟩
 ·exact wpAny_loadName_local I.ok.kind hk hn hm go
 ·rcases hk with hk | hk
  ·exact wpAny_loadName_cell I.ok.kind hk hc hcell go
  ·rcases hx with k | k
   ·have:X.env.scope.names.lookup x=some .free:=hk
    rw[k] at this;cases this
   ·have:X.env.scope.names.lookup x=some .free:=hk
    rw[k] at this;cases this
instance ipI(f:Int->Int->Int):TIp:=λx y H Q=>∃i j,x=.int i/\y=.int j/\Q (.int (f i j)) H
def wy8:PIp X .Add (ipI λi j=>i+j):=by
 intro A3 s Y H x y v u Q I r1 r2 h;obtain⟨i,j,e1,e2,q⟩:=h;subst e1;subst e2;obtain⟨t,rfl⟩:=r1;obtain⟨t',rfl⟩:=r2;exact iadd_int {.int _,H,I.tok _,{_,rfl},q}
instance wu1(c:TT)(tb:TS):TS:=λD Y H=>∃W:Nat->St->Hp->Prop,(∃m,W m Y H)/\∀m Y H,W m Y H->
 c Y H λb H1=>if b=true then ∃N:St->Hp->Prop,(∀Y' H',N Y' H'->∃m',m' < m/\W m' Y' H')/\tb { D with nx:=N,ct:=N,bk:=D.nx } Y H1 else D.nx Y H1
open H in
theorem wc6{c:Expr}{body:List Stmt}{tc:TT}{tb:TS}(hp:PassesOwn 'e' X.A X.env X.xe)(hc:PT X c tc)(hb:PSs X body tb):PS X (.While c body [] pos) (wu1 tc tb):=by
 intro A3 s Y H D I h;obtain⟨W,⟨m0,w0⟩,turn⟩:=h;refine wpAny_While (codeAny_whileLoop (λn s'=>∃Y' H',Inv X A3 Y' H' s'/\W n Y' H') ?_ m0 ⟨Y,H,I,w0⟩);rintro n s1 ⟨Y1,H1,I1,w1⟩;refine wpAny_passesOwn hp (thn (hc A3 s1 Y1 H1 _ I1 (turn n Y1 H1 w1)) λb s2 hI73=>?_);obtain⟨H2,I2,q2⟩:=hI73;cases b with
 | true=>
   obtain⟨N,hN,q2⟩:=q2;rw[if_pos rfl];refine wpAny_passesOwn hp (thn (hb A3 s2 Y1 H2 _ I2 q2) λf s3 q3=>?_);cases f with
   | next=>
     obtain⟨Y3,H3,I3,n3⟩:=q3;obtain⟨m',hm,w3⟩:=hN Y3 H3 n3;exact⟨m',hm,Y3,H3,I3,w3⟩
   | cont=>
     obtain⟨Y3,H3,I3,n3⟩:=q3;obtain⟨m',hm,w3⟩:=hN Y3 H3 n3;exact⟨m',hm,Y3,H3,I3,w3⟩
   | brk=>exact q3
   | ret v=>exact q3
 | false=>
   rw[if_neg Aq0];exact wpAny_execs_nil ⟨Y1,H2,I2,q2⟩
structure It where
 go:Nat->Hp->Prop
 yld:Nat->Hp->V->Hp->Prop
 stop:Nat->Hp->Prop
instance vm4(X:Cx)(A3:List 'p')(H:Hp)(b:Addr):Prop:=
 H b=none/\b≠X.env.locals/\b∉X.fs/\(b∈X.ex\/X.s₀.heap.objs.size<=b)/\(∀x c,X.env.cells.lookup x=some c->c≠b)/\∀p∈X.pn++A3,p.1≠b
def Inv.fpOk{X:Cx}{A3:List 'p'}{Y:St}{H H':Hp}{s:Shared}{b:Addr}(I:Inv X A3 Y H s)(hb:s.heap.objs.size<=b)(hn:H' b=none):vm4 X A3 H' b:=by
 refine{hn,Nat.ne_of_gt (Az0 I.lt hb),I.nofs hb,.inr (Ap0 I.sz hb),λx c e z=>?_,λp hp z=>?_}
 ·obtain⟨v,q⟩:=I.cell x c e
  exact absurd (Az0 q.lt (by rw[z];exact hb)) (Bz0 _)
 ·exact absurd (Az0 (Heap.lt_size (I.pin p hp).1) (by rw[z];exact hb)) (Bz0 _)
structure vr8(P:Program)(w:World)(K:PySem.W.Frag)(tg:Expr)(J:It)(fp:List Addr)(it:Addr)(tn:Nat->Heap->Prop):Prop where
 mem:it∈fp
 obj:∀i h,tn i h->∀b∈fp,∃o,h.get? b=some o/\∀v,o.data≠.cell v
 keep:∀i h h',tn i h->(∀b∈fp,∀o,h.get? b=some o->h'.get? b=some o)->tn i h'
 item:∀(X:Cx),X.prog=P->X.w=w->X.K=K->X.calm=true->∀(i:Nat) (A3:List 'p') (s:Shared) (Y:St) (H:Hp) (E:Value->Shared->Prop),Inv X A3 Y H s->(∀b∈fp,vm4 X A3 H b)->tn i s.heap->J.go i H->
  wpAny (model P w) X.A (pyNext (.ref it)) (λr s1=>∃u,r=some u/\
   wpAny (model P w) X.A (letOwnedTupleGo tg (.ref it) u) (λ_ s2=>∃x H',Inv X A3 Y H' s2/\vc7 x u/\J.yld i H x H'/\tn (i+1) s2.heap/\∀b∈fp,H' b=none) E s1) E s
 done:∀(X:Cx),X.prog=P->X.w=w->X.K=K->X.calm=true->∀(i:Nat) (A3:List 'p') (s:Shared) (Y:St) (H:Hp) (E:Value->Shared->Prop),Inv X A3 Y H s->(∀b∈fp,vm4 X A3 H b)->tn i s.heap->J.stop i H->
  wpAny (model P w) X.A (pyNext (.ref it)) (λr s1=>r=none/\Inv X A3 Y H s1) E s
 self:∀(A:Around) (i:Nat) (s:Shared) (Q:Value->Shared->Prop) (E:Value->Shared->Prop),tn i s.heap->Q (.ref it) s->wpAny (model P w) A (pyIter (.ref it)) Q E s
noncomputable abbrev TI:=St->Hp->(It->Hp->Prop)->Prop
instance PIE(X:Cx)(A3:List 'p')(Y:St)(tg:Expr)(R:It->Hp->Prop)(itv:Value)(s2:Shared):Prop:=
 ∃(it:Addr) (fp:List Addr) (tn:Nat->Heap->Prop) (J:It) (H':Hp),itv=.ref it/\Inv X A3 Y H' s2/\vr8 X.prog X.w X.K tg J fp it tn/\tn 0 s2.heap/\(∀b∈fp,vm4 X A3 H' b)/\R J H'
instance PI(X:Cx)(tg iter:Expr)(wi:TI):Prop:=
 ∀(A3:List 'p') (s:Shared) (Y:St) (H:Hp) (R:It->Hp->Prop),Inv X A3 Y H s->wi Y H R->
  wpAny 'e' X.A (eval iter X.env) (λv s1=>wpAny 'e' X.A (pyIter v) (PIE X A3 Y tg R) X.xe s1) X.xe s
def vv6{n:String}(ho:s.heap.get? it=some o)(hc:o.cls=.type n)(hd:o.data=.fields vs)(hn:["enumerate","zip","dict_itemiterator","dict_reverseitemiterator","odict_iterator","itertools.zip_longest","itertools.pairwise"].contains n=false)(hQ:Q () s):wpAny M A (letOwnedTupleGo tg (.ref it) u) Q E s:=by
 unfold letOwnedTupleGo;cases tg<;>first
  | exact Ac1 hQ
  | (cases u<;>first
   | exact Ac1 hQ
   | (refine Aa1 (wpAny_load ho ?_)
      rw[hc,hd];show wpAny M A (if (["enumerate","zip","dict_itemiterator","dict_reverseitemiterator","odict_iterator","itertools.zip_longest","itertools.pairwise"].contains n&&vs[0]? == some (rawInt _))=true then _ else _) Q E s;rw[if_neg (by intro h;rw[hn,Bool.false_and] at h;cases h)];exact Ac1 hQ))
instance Itl(K:PySem.W.Frag)(a:Addr):It:=
 {λi H=>∃xs x,SqL K H a xs/\xs[i]?=some x,λi H x H'=>H'=H/\∀xs,SqL K H a xs->xs[i]?=some x,λi H=>∃xs,SqL K H a xs/\xs.length<=i}
instance Itt(K:PySem.W.Frag)(a:Addr):It:=
 {λi H=>∃xs x,SqT K H a xs/\xs[i]?=some x,λi H x H'=>H'=H/\∀xs,SqT K H a xs->xs[i]?=some x,λi H=>∃xs,SqT K H a xs/\xs.length<=i}
instance Itr(lo:Int)(n:Nat):It:={λi _=>i<n,λi H x H'=>H'=H/\x=.int (lo+i),λi _=>n<=i}
def xn5{P:Program}{w:World}{K:PySem.W.Frag}{tg:Expr}(a it:Addr):vr8 P w K tg (Itl K a) [it] it (λi h=>h.IsListIter it a i) where
 mem:=by simp
 obj:=λi h st b hb=>by
  have e:b=it:=by simpa using hb
  subst e;obtain⟨o,e,c,d⟩:=st;exact{o,e,λv z=>by rw[d] at z;cases z}
 keep:=λi h h' st k=>st.at λo e=>k it 'd' o e
 item:=by
  intro X hP hw hK hc i A3 s Y H E I hf st hg;subst hP hw hK;obtain⟨xs,x,hq,hx⟩:=hg;obtain⟨its,rv,p,hz⟩:=I.list hq;obtain⟨u,hu,ru⟩:=rv.get hx;obtain⟨f0,f1,f2,f3,f4,f5⟩:=hf it 'd';refine wpAny_pyNext_list_item st p.isList (x:=u) (by simpa using hu) λh' st' sb=>?_
  have I1:Inv X A3 Y H { s with heap:=h' }:=I.turned (t':=s.toks) (λb o hb e=>(sb.2 b hb).trans e) f0 f1 f3 f4 f5;obtain⟨o,e,c,d⟩:=id st';exact{u,rfl,vv6 (s:={ s with heap:=h' }) e c d 'z' {x,H,I1,ru,{rfl,λys hy=>by rw[I.list_inj hy hq];exact hx},st',λb hb=>(hf b hb).1}}
 done:=by
  intro X hP hw hK hc i A3 s Y H E I hf st hg;subst hP hw hK;obtain⟨xs,hq,hx⟩:=hg;obtain⟨its,rv,p,hz⟩:=I.list hq;obtain⟨f0,f1,f2,f3,f4,f5⟩:=hf it 'd';have hl:=rv.length;exact wpAny_pyNext_list_end (I.ok.hd hc) st p.isList (by simp;omega) λh' eb=>{rfl,I.turned (t':=s.toks) (λb o hb e=>eb b o hb e) f0 f1 f3 f4 f5}
 self:=λ_ _ _ _ _ st h=>wpAny_pyIter_listiter st h
def xj4{P:Program}{w:World}{K:PySem.W.Frag}{tg:Expr}(a it:Addr):vr8 P w K tg (Itt K a) [it] it (λi h=>h.IsTupleIter it a i) where
 mem:=by simp
 obj:=λi h st b hb=>by
  have e:b=it:=by simpa using hb
  subst e;obtain⟨o,e,c,d⟩:=st;exact{o,e,λv z=>by rw[d] at z;cases z}
 keep:=λi h h' st k=>st.at λo e=>k it 'd' o e
 item:=by
  intro X hP hw hK hc i A3 s Y H E I hf st hg;subst hP hw hK;obtain⟨xs,x,hq,hx⟩:=hg;obtain⟨its,rv,p,hz⟩:=I.tuple hq;obtain⟨u,hu,ru⟩:=rv.get hx;obtain⟨f0,f1,f2,f3,f4,f5⟩:=hf it 'd';refine wpAny_pyNext_tuple_item st (show s.heap.IsTuple a its.toArray from p) (x:=u) (by simpa using hu) λh' st' sb=>?_
  have I1:Inv X A3 Y H { s with heap:=h' }:=I.turned (t':=s.toks) (λb o hb e=>(sb.2 b hb).trans e) f0 f1 f3 f4 f5;obtain⟨o,e,c,d⟩:=id st';exact{u,rfl,vv6 (s:={ s with heap:=h' }) e c d 'z' {x,H,I1,ru,{rfl,λys hy=>by rw[I.tuple_inj hy hq];exact hx},st',λb hb=>(hf b hb).1}}
 done:=by
  intro X hP hw hK hc i A3 s Y H E I hf st hg;subst hP hw hK;obtain⟨xs,hq,hx⟩:=hg;obtain⟨its,rv,p,hz⟩:=I.tuple hq;obtain⟨f0,f1,f2,f3,f4,f5⟩:=hf it 'd';have hl:=rv.length;exact wpAny_pyNext_tuple_end (I.ok.hd hc) st (show s.heap.IsTuple a its.toArray from p) (by simp;omega) λh' eb=>{rfl,I.turned (t':=s.toks) (λb o hb e=>eb b o hb e) f0 f1 f3 f4 f5}
 self:=λ_ _ _ _ _ st h=>wpAny_pyIter_tupleiter st h
def xj5{P:Program}{w:World}{K:PySem.W.Frag}{tg:Expr}(it:Addr)(lo:Int)(n:Nat):vr8 P w K tg (Itr lo n) [it] it (λi h=>IsRangeIter h it (lo+(i:Nat)*1) ((n:Int)-(i:Nat)) 1) where
 mem:=by simp
 obj:=λi h st b hb=>by
  have e:b=it:=by simpa using hb
  subst e;exact{_,st,λv z=>by
   have z':Data.fields _=Data.cell v:=z;cases z'}
 keep:=λi h h' st k=>k it 'd' _ st
 item:=by
  intro X hP hw hK hc i A3 s Y H E I hf st hg;subst hP hw hK;obtain⟨f0,f1,f2,f3,f4,f5⟩:=hf it 'd';have W:=Walks.range (prog:=X.prog) (w:=X.w) (I.ok.hd hc) it lo 1 n;refine W.item i s _ _ hg st λv h' tk hv st' kk=>?_
  obtain⟨t,rfl⟩:=hv;have I1:Inv X A3 Y H { s with heap:=h',toks:=tk }:=I.turned (λb o hb e=>kk b o (by simpa using hb) e) f0 f1 f3 f4 f5;refine{_,rfl,vv6 (s:={ s with heap:=h',toks:=tk }) (n:="range_iterator") st' rfl rfl 'z' {.int (lo+i),H,I1,{t,?_},⟨rfl,rfl⟩,st',λb hb=>(hf b hb).1}};rw[Int.mul_one]
 done:=by
  intro X hP hw hK hc i A3 s Y H E I hf st hg;subst hP hw hK;obtain⟨f0,f1,f2,f3,f4,f5⟩:=hf it 'd';exact wpAny_pyNext_range_end (I.ok.hd hc) st (by have:n<=i:=hg;omega) λh' eb=>{rfl,I.turned (t':=s.toks) (λb o hb e=>eb b o hb e) f0 f1 f3 f4 f5}
 self:=λ_ _ _ _ _ st h=>wpAny_pyIter_rangeiter st h
instance ug1(K:PySem.W.Frag)(tl:TE):TI:=λY H R=>tl Y H λx H1=>∃a,x=.ref a/\(∃xs,SqL K H1 a xs)/\R (Itl K a) H1
instance un0(K:PySem.W.Frag)(tl:TE):TI:=λY H R=>tl Y H λx H1=>∃a,x=.ref a/\(∃xs,SqT K H1 a xs)/\R (Itt K a) H1
def xq7{l:Expr}{tl:TE}(hl:PE X l tl):PI X tg l (ug1 X.K tl):=by
 intro A3 s Y H R I h;refine thn (hl A3 s Y H _ I h) λv s1 hI74=>?_
 obtain⟨x,H1,I1,r1,q1⟩:=hI74;obtain⟨a,e,⟨xs,hq⟩,q⟩:=q1;subst e;cases r1;obtain⟨its,rv,p,hz⟩:=I1.list hq;refine wpAny_pyIter_list p.isList ?_;refine{s1.heap.objs.size,[s1.heap.objs.size],_,_,H1,rfl,I1.kept (t':=s1.toks) λb o e=>Ab0 _ e,xn5 a _,{_,Ag0 _ rfl,rfl,rfl},λb hb=>?_,q};have e:b=s1.heap.objs.size:=by simpa using hb
 subst e;exact I1.fpOk (Ae0 _) (I1.hok.fresh (Ae0 _))
def wv6{l:Expr}{tl:TE}(hl:PE X l tl):PI X tg l (un0 X.K tl):=by
 intro A3 s Y H R I h;refine thn (hl A3 s Y H _ I h) λv s1 hI75=>?_
 obtain⟨x,H1,I1,r1,q1⟩:=hI75;obtain⟨a,e,⟨xs,hq⟩,q⟩:=q1;subst e;cases r1;obtain⟨its,rv,p,hz⟩:=I1.tuple hq;refine wpAny_pyIter_tuple (show s1.heap.IsTuple a its.toArray from p) ?_;refine{s1.heap.objs.size,[s1.heap.objs.size],_,_,H1,rfl,I1.kept (t':=s1.toks) λb o e=>Ab0 _ e,xj4 a _,{_,Ag0 _ rfl,rfl,rfl},λb hb=>?_,q};have e:b=s1.heap.objs.size:=by simpa using hb
 subst e;exact I1.fpOk (Ae0 _) (I1.hok.fresh (Ae0 _))
def wc5{A3:List 'p'}{Y:St}{H:Hp}{s:Shared}{R:It->Hp->Prop}{E:Value->Shared->Prop}{lo hi:Int}{t u v:Tok}{tk:Nat}(I:Inv X A3 Y H s)(h1:-(2 ^ 62)<=lo)(h2:lo<2 ^ 62)(h3:-(2 ^ 62)<=hi)(h4:hi<2 ^ 62)(q:R (Itr lo (hi-lo).toNat) H):wpAny 'e' X.A (pyIter (.ref s.heap.objs.size)) (PIE X A3 Y tg R) E { s with heap:=s.heap.push { cls:=.type "range",data:=.fields #[.int lo t,.int hi u,.int 1 v] },toks:=tk }:=by
 refine wpAny_pyIter_range (IsRange.new ..) (small_one h1 h2 h3 h4) ?_;have I1:Inv X A3 Y H { s with heap:=s.heap.push { cls:=.type "range",data:=.fields #[.int lo t,.int hi u,.int 1 v] },toks:=tk }:=I.kept λb o e=>Ab0 _ e
 refine{(s.heap.push { cls:=.type "range",data:=.fields #[.int lo t,.int hi u,.int 1 v] }).objs.size,[(s.heap.push { cls:=.type "range",data:=.fields #[.int lo t,.int hi u,.int 1 v] }).objs.size],_,_,H,rfl,I1.kept (t':=tk) λb o e=>Ab0 _ e,xj5 _ lo (hi-lo).toNat,?_,λb hb=>?_,q}
 ·have e1:lo+((0:Nat):Int)*1=lo:=by simp
  have e2:(((hi-lo).toNat:Nat):Int)-((0:Nat):Int)=Builtin.Range.rangeSize lo hi 1:=by rw[rangeSize_one];split<;>omega
  show IsRangeIter _ _ (lo+((0:Nat):Int)*1) ((((hi-lo).toNat:Nat):Int)-((0:Nat):Int)) 1;rw[e1,e2];exact Ag0 _ rfl
 ·have e:b=(s.heap.push { cls:=.type "range",data:=.fields #[.int lo t,.int hi u,.int 1 v] }).objs.size:=by simpa using hb
  subst e;exact I1.fpOk (Ae0 _) (I1.hok.fresh (Ae0 _))
instance ug0(ta:TA):TI:=λY H R=>ta Y H λvs H1=>∃j:Int,vs=[.int j]/\-(2 ^ 62)<=j/\j<2 ^ 62/\R (Itr 0 j.toNat) H1
theorem xq6{a:Expr}{ta:TA}{p pos:Pos}(hg:Gl X "range")(hm:X.mg "range" = none)(ha:PA X [a] ta)(hs:autoParam (starEach [a] X.env=[(false,eval a X.env)]) uR):PI X tg (.Call (.Name "range" p) [a] [] pos) (ug0 ta):=by
 intro A3 s Y H R I h;refine Call_ (zz8 I hg hm boot_range (PyProof.Rows.callWith_type1 (thn (ha pos A3 s Y H _ I h) λus s1 hI76=>?_) hs rfl));obtain⟨vs,H1,I1,r1,q1⟩:=hI76;obtain⟨j,e,q1,q2,q⟩:=q1;subst e;cases r1 with
 | cons r rr=>
   cases rr;obtain⟨t,rfl⟩:=r;exact call_range_1 (wc5 I1 'o' 'o' q1 q2 (by simpa using q))
instance um2(wi:TI)(g:TG)(tb:TS):TS:=λD Y H=>wi Y H λJ H1=>∃W:Nat->Nat->St->Hp->Prop,(∃m,W 0 m Y H1)/\∀i m Y H,W i m Y H->
 (J.stop i H/\D.nx Y H)\/(J.go i H/\∃N:St->Hp->Prop,(∀Y' H',N Y' H'->∃m',m' < m/\W (i+1) m' Y' H')/\∀x H',J.yld i H x H'->g x Y H' λY2 H2=>tb { D with nx:=N,ct:=N,bk:=D.nx } Y2 H2)
instance ys0(fp:List Addr)(h:Heap):List 'p':=fp.filterMap λb=>(h.get? b).map λo=>(b,o)
def zt0{fp:List Addr}{h:Heap}{b:Addr}{o:Obj}(hb:b∈fp)(e:h.get? b=some o):(b,o)∈ys0 fp h:=List.mem_filterMap.mpr {b,hb,by rw[e];rfl}
theorem xs0(hp:p∈ys0 fp h):p.1∈fp/\h.get? p.1=some p.2:=by
 obtain⟨b,hb,e⟩:=List.mem_filterMap.mp hp;cases q:h.get? b with
 | none=>rw[q] at e;cases e
 | some o=>
   rw[q] at e;have e':(b,o)=p:=Option.some.inj e;subst e';exact⟨hb,q⟩
def Inv.pinned{A3:List 'p'}{Y:St}{H:Hp}{s:Shared}{fp:List Addr}(I:Inv X A3 Y H s)(hf:∀b∈fp,vm4 X A3 H b)(ho:∀b∈fp,∃o,s.heap.get? b=some o/\∀v,o.data≠.cell v):Inv X (A3++ys0 fp s.heap) Y H s:=
 I.pins_of λp hp=>(Ar0.mp hp).elim (λz=>I.pin p (Bj0 _ z)) λz=>by
  obtain⟨hb,e⟩:=xs0 z;obtain⟨f0,f1,f2,_⟩:=hf p.1 hb;obtain⟨o,e',d⟩:=ho p.1 hb;rw[e] at e';cases e';exact⟨e,f0,f1,f2,d⟩
def Inv.unpinned{A3 pl:List 'p'}{Y:St}{H:Hp}{s:Shared}(I:Inv X (A3++pl) Y H s):Inv X A3 Y H s:=I.pins_of λp hp=>I.pin p (Bj0 _ (By0 _ hp))
open H in
def wv2{iter:Expr}{body:List Stmt}{wi:TI}{g:TG}{tb:TS}{pos:Pos}(hp:PassesOwn 'e' X.A X.env X.xe)(hc:X.calm=true)(hi:PI X tg iter wi)(hg:PG X tg g)(hb:PSs X body tb)(hs:∀x,foldedSetIterable iter X.env x=pure x:=by intro _;rfl):PS X (.For tg iter body [] pos) (um2 wi g tb):=by
 intro A3 s Y H D I h;refine wpAny_For (thn (hi A3 s Y H _ I h) λv s1 h1=>thn h1 λitv s2 h2=>?_) hs;obtain⟨it,fp,tn,J,H2,e,I2,T,st2,f2,W,⟨m0,w0⟩,turn⟩:=h2;subst e
 -- what stays true of the iterator's objects through the loop
 have stat:∀{H':Hp},(∀b∈fp,H' b=none)->∀b∈fp,vm4 X A3 H' b:=λhn b hb=>{hn b hb,(f2 b hb).2}
 refine codeAny_forLoop_any (λn s'=>∃i Y' H',Inv X A3 Y' H' s'/\tn i s'.heap/\(∀b∈fp,H' b=none)/\W i n Y' H') ?_ m0 {0,Y,H2,I2,st2,λb hb=>(f2 b hb).1,w0};rintro n s3 ⟨i,Y3,H3,I3,st3,fr3,w3⟩;rcases turn i n Y3 H3 w3 with⟨stop,qn⟩ | ⟨go,N,hN,step⟩
 ·refine wpAny_passesOwn hp (thn (T.done X rfl rfl rfl hc i A3 s3 Y3 H3 X.xe I3 (stat fr3) st3 stop) λr s4 hI77=>?_)
  obtain⟨hr,I4⟩:=hI77;subst hr;exact wpAny_execs_nil ⟨Y3,H3,I4,qn⟩
 ·refine wpAny_passesOwn hp (thn (T.item X rfl rfl rfl hc i A3 s3 Y3 H3 X.xe I3 (stat fr3) st3 go) λr s4 hI78=>?_)
  obtain⟨u,hr,h4⟩:=hI78;subst hr;refine wpAny_passesOwn hp (thn h4 λ_ s5 hI79=>?_);obtain⟨x,H5,I5,r5,y5,st5,fr5⟩:=hI79;have I5':=I5.pinned (stat fr5) (T.obj _ _ st5);refine wpAny_passesOwn hp (thn (hg _ s5 Y3 H5 x u _ I5' r5 (step x H5 y5)) λ_ s6 hI80=>?_);obtain⟨Y6,H6,I6,q6⟩:=hI80;refine wpAny_passesOwn hp (thn (hb _ s6 Y6 H6 _ I6 q6) λf s7 q7=>?_);have again:∀{Y7:St} {H7:Hp},Inv X (A3++ys0 fp s5.heap) Y7 H7 s7->N Y7 H7->∃m,m<n/\∃i Y' H',Inv X A3 Y' H' s7/\tn i s7.heap/\(∀b∈fp,H' b=none)/\W i m Y' H':=λ{Y7 H7} I7 n7=>by
   obtain⟨m',hm,w7⟩:=hN Y7 H7 n7;refine{m',hm,i+1,Y7,H7,I7.unpinned,T.keep _ _ _ st5 λb hb o e=>(I7.pin (b,o) (Bj0 _ (Bj0 _ (zt0 hb e)))).1,λb hb=>?_,w7};obtain⟨o,e,d⟩:=T.obj _ _ st5 b hb;exact(I7.pin (b,o) (Bj0 _ (Bj0 _ (zt0 hb e)))).2.1
  cases f with
  | next=>obtain⟨Y7,H7,I7,n7⟩:=q7;exact again I7 n7
  | cont=>obtain⟨Y7,H7,I7,n7⟩:=q7;exact again I7 n7
  | brk=>obtain⟨Y7,H7,I7,q7⟩:=q7;exact⟨Y7,H7,I7.unpinned,q7⟩
  | ret v=>obtain⟨x7,Y7,H7,I7,r7,q7⟩:=q7;exact⟨x7,Y7,H7,I7.unpinned,r7,q7⟩
noncomputable abbrev R2:=V->V->Hp->VK->Prop
instance OpR(X:Cx)(f:Value->Value->Sem Value)(r:R2):Prop:=
 ∀(A3:List 'p') (s:Shared) (Y:St) (H:Hp) (x y:V) (v u:Value) (Q:VK),Inv X A3 Y H s->vc7 x v->vc7 y u->r x y H Q->
  wpAny 'e' X.A (f v u) (EP X A3 Y Q) X.xe s
instance UnR(X:Cx)(f:Value->Sem Value)(r:V->Hp->VK->Prop):Prop:=
 ∀(A3:List 'p') (s:Shared) (Y:St) (H:Hp) (x:V) (v:Value) (Q:VK),Inv X A3 Y H s->vc7 x v->r x H Q->
  wpAny 'e' X.A (f v) (EP X A3 Y Q) X.xe s
instance vf3(X:Cx)(f:Value)(r:List V->Hp->VK->Prop):Prop:=
 ∀(A3:List 'p') (s:Shared) (Y:St) (H:Hp) (xs:List V) (us:List Value) (Q:VK),Inv X A3 Y H s->vc8 xs us->r xs H Q->
  wpAny 'e' X.A (call f us) (EP X A3 Y Q) X.xe s
instance tOp(r:R2)(ta tb:TE):TE:=λY H Q=>ta Y H λx H1=>tb Y H1 λy H2=>r x y H2 Q
instance tUn(r:V->Hp->VK->Prop)(ta:TE):TE:=λY H Q=>ta Y H λx H1=>r x H1 Q
instance rI(C:Int->Int->Prop)(g:Int->Int->V):R2:=λx y H Q=>∃i j,x=.int i/\y=.int j/\C i j/\Q (g i j) H
instance rI0(g:Int->Int->V):R2:=λx y H Q=>∃i j,x=.int i/\y=.int j/\Q (g i j) H
instance rU(g:Int->V):V->Hp->VK->Prop:=λx H Q=>∃i,x=.int i/\Q (g i) H
def ui2(ha:PE X a ta)(hb:PE X b tb){A3:List 'p'}{s:Shared}{Y:St}{H:Hp}{R:V->V->Hp->Prop}(I:Inv X A3 Y H s)(h:ta Y H λx H1=>tb Y H1 λy H2=>R x y H2){Q:Value->Shared->Prop}{f:Value->Value->Sem Value}(hf:∀v u s2 x y H2,Inv X A3 Y H2 s2->vc7 x v->vc7 y u->R x y H2->wpAny 'e' X.A (f v u) Q X.xe s2) :
 wpAny 'e' X.A (eval a X.env) (λv s₁=>wpAny 'e' X.A (eval b X.env) (λu s₂=>wpAny 'e' X.A (f v u) Q X.xe s₂) X.xe s₁) X.xe s:=by
 refine thn (ha A3 s Y H _ I h) λv s1 hI81=>?_
 obtain⟨x,H1,I1,r1,q1⟩:=hI81;refine thn (hb A3 s1 Y H1 _ I1 q1) λu s2 hI82=>?_
 obtain⟨y,H2,I2,r2,q2⟩:=hI82;exact hf v u s2 x y H2 I2 r1 r2 q2
def vf5{op:Operator}{r:R2}(ho:OpR X (binaryOp op) r)(ha:PE X a ta)(hb:PE X b tb):PE X (.BinOp a op b pos) (tOp r ta tb):=by
 intro A3 s Y H Q I h;exact wpAny_BinOp (ui2 ha hb I h λv u s2 x y H2 I2 rx ry q=>ho A3 s2 Y H2 x y v u Q I2 rx ry q)
def ue8{op:UnaryOp}{r:V->Hp->VK->Prop}(ho:UnR X (unaryOp op) r)(ha:PE X a ta):PE X (.UnaryOp op a pos) (tUn r ta):=by
 intro A3 s Y H Q I h;exact UnaryOp_ (thn (ha A3 s Y H _ I h) λv s1 ⟨x,H1,I1,r1,q1⟩=>ho A3 s1 Y H1 x v Q I1 r1 q1)
def opI{f:Value->Value->Sem Value}{C:Int->Int->Prop}{g:Int->Int->Int}(rule:∀(i j:Int) (t u:Tok) (s:Shared) (Q:Value->Shared->Prop) (E:Value->Shared->Prop),C i j->Q (.int (g i j) s.toks) { s with toks:=s.toks+1 }->wpAny 'e' X.A (f (.int i t) (.int j u)) Q E s) :
 OpR X f (rI C λi j=>.int (g i j)):=by
 intro A3 s Y H x y v u Q I rx ry h;obtain⟨i,j,rfl,rfl,hc,q⟩:=h;obtain⟨t,rfl⟩:=rx;obtain⟨t',rfl⟩:=ry;exact rule i j t t' s _ _ hc {.int (g i j),H,I.tok _,{_,rfl},q}
def uj6{f:Value->Value->Sem Value}{g:Int->Int->Int}(rule:∀(i j:Int) (t u:Tok) (s:Shared) (Q:Value->Shared->Prop) (E:Value->Shared->Prop),Q (.int (g i j) s.toks) { s with toks:=s.toks+1 }->wpAny 'e' X.A (f (.int i t) (.int j u)) Q E s) :
 OpR X f (rI0 λi j=>.int (g i j)):=by
 intro A3 s Y H x y v u Q I rx ry h;obtain⟨i,j,rfl,rfl,q⟩:=h;obtain⟨t,rfl⟩:=rx;obtain⟨t',rfl⟩:=ry;exact rule i j t t' s _ _ {.int (g i j),H,I.tok _,{_,rfl},q}
def ub3{f:Value->Value->Sem Value}{g:Int->Int->Bool}(rule:∀(i j:Int) (t u:Tok) (s:Shared) (Q:Value->Shared->Prop) (E:Value->Shared->Prop),Q (.bool (g i j)) s->wpAny 'e' X.A (f (.int i t) (.int j u)) Q E s) :
 OpR X f (rI0 λi j=>.bl (g i j)):=by
 intro A3 s Y H x y v u Q I rx ry h;obtain⟨i,j,rfl,rfl,q⟩:=h;obtain⟨t,rfl⟩:=rx;obtain⟨t',rfl⟩:=ry;exact rule i j t t' s _ _ {.bl (g i j),H,I,rfl,q}
instance vx3(i j:Int):Prop:=0<j/\j<1073741824
instance ua9(i j:Int):Prop:=j≠0/\j.natAbs<1073741824
instance ui9(i j:Int):Prop:=0<=j/\j<=1000000/\i.natAbs<2 ^ 64
instance vo0(i j:Int):Prop:=(-(2 ^ 64)<i/\i<2 ^ 64)\/(-(2 ^ 64)<j/\j<2 ^ 64)
def vo0.ok{i j:Int}(h:vo0 i j):IntMulOk i j:=by
 rcases h with⟨h1,h2⟩ | ⟨h1,h2⟩
 ·exact .of_left (intBits_le_64 h1 h2)
 ·exact .of_right (intBits_le_64 h1 h2)
def ys5:OpR X (binaryOp .Add) (rI0 λi j=>.int (i+j)):=uj6 λ_ _ _ _ _ _ _ q=>add_int q
def zz4:OpR X (binaryOp .Sub) (rI0 λi j=>.int (i-j)):=uj6 λ_ _ _ _ _ _ _ q=>sub_int q
def yd7:OpR X (binaryOp .Mult) (rI vo0 λi j=>.int (i*j)):=opI λ_ _ _ _ _ _ _ hc q=>mul_int q hc.ok
def xr7:OpR X (binaryOp .FloorDiv) (rI vx3 λi j=>.int (i / j)):=opI λi j _ _ _ _ _ hc q=>by
 have h1:(0:Int)<j:=hc.1;have h2:j<1073741824:=hc.2;exact floordiv_int 'o' (by rw[Int.fdiv_eq_ediv_of_nonneg i 'o'];exact q) (.inl (PyProof.noPylong_small 'o'))
def zw2:OpR X (binaryOp .Mod) (rI (λ_ j=>0<j) λi j=>.int (i % j)):=opI λi j _ _ _ _ _ hc q=>by
 have h1:(0:Int)<j:=hc;exact mod_int' 'o' (by rw[Int.fmod_eq_emod_of_nonneg i 'o'];exact q)
def ww4:OpR X (binaryOp .Pow) (rI ui9 λi j=>.int (i ^ j.toNat)):=opI λ_ _ _ _ _ _ _ hc q=>pow_int_small hc.1 hc.2.1 hc.2.2 q
def unI{f:Value->Sem Value}{g:Int->Int}(rule:∀(i:Int) (t:Tok) (s:Shared) (Q:Value->Shared->Prop) (E:Value->Shared->Prop),Q (.int (g i) s.toks) { s with toks:=s.toks+1 }->wpAny 'e' X.A (f (.int i t)) Q E s) :
 UnR X f (rU λi=>.int (g i)):=by
 intro A3 s Y H x v Q I rx h;obtain⟨i,rfl,q⟩:=h;obtain⟨t,rfl⟩:=rx;exact rule i t s _ _ {.int (g i),H,I.tok _,{_,rfl},q}
def wt9:UnR X (unaryOp .USub) (rU λi=>.int (-i)):=unI λ_ _ _ _ _ q=>neg_int q
def wj4{k k':Bool}(I:Inv X A3 Y H s)(q:Q (.bl k) H)(e:k=k'):EP X A3 Y Q (.bool k') s:=by
 subst e;exact{.bl k,H,I,rfl,q}
def vp1:OpR X (compareOp .Lt) (rI0 λi j=>.bl (decide (i<j))):=ub3 λ_ _ _ _ _ _ _ q=>lt_int q
def vt9:OpR X (compareOp .LtE) (rI0 λi j=>.bl (decide (i<=j))):=ub3 λ_ _ _ _ _ _ _ q=>le_int q
def vu0:OpR X (compareOp .Gt) (rI0 λi j=>.bl (decide (j<i))):=ub3 λ_ _ _ _ _ _ _ q=>gt_int q
def uf1:OpR X (compareOp .GtE) (rI0 λi j=>.bl (decide (j<=i))):=ub3 λ_ _ _ _ _ _ _ q=>ge_int q
def xd6:OpR X (compareOp .Is) (λx y H Q=>y=.non/\Q (.bl (decide (x=.non))) H):=by
 intro A3 s Y H x y v u Q I rx ry h;obtain⟨rfl,q⟩:=h;cases ry;refine is_none_gen (wj4 I q ?_);cases x<;>first
  | (cases rx;rfl)
  | (obtain⟨t,rfl⟩:=rx;rfl)
def wo3:OpR X (compareOp .IsNot) (λx y H Q=>y=.non/\Q (.bl (!decide (x=.non))) H):=by
 intro A3 s Y H x y v u Q I rx ry h;obtain⟨rfl,q⟩:=h;cases ry;refine isnot_none_gen (wj4 I q ?_);cases x<;>first
  | (cases rx;rfl)
  | (obtain⟨t,rfl⟩:=rx;rfl)
def OpR.or(h:OpR X f r)(h':OpR X f r'):OpR X f (λx y H Q=>r x y H Q\/r' x y H Q):=by
 intro A3 s Y H x y v u Q I rx ry q;rcases q with q | q
 ·exact h A3 s Y H x y v u Q I rx ry q
 ·exact h' A3 s Y H x y v u Q I rx ry q
def wi4(b:Expr)(h:autoParam (op≠.In) uD)(h2:autoParam (op≠.NotIn) uD):behindInMarks op b=false:=by
 have e1:(op == CmpOp.In)=false:=by cases op<;>first | rfl | exact absurd rfl h
 have e2:(op == CmpOp.NotIn)=false:=by cases op<;>first | rfl | exact absurd rfl h2
 cases b<;>simp[behindInMarks,e1,e2]
def wo1(ho:OpR X (compareOp op) r)(ha:PE X a ta)(hb:PE X b tb)(hm:behindInMarks op b=false):PE X (.Compare a [op] [b] pos) (tOp r ta tb):=by
 intro A3 s Y H Q I h;exact wpAny_Compare1 (ui2 ha hb I h λv u s2 x y H2 I2 rx ry q=>ho A3 s2 Y H2 x y v u Q I2 rx ry q) hm
instance uc8(t:TE):TT:=λY H Q=>t Y H λx H'=>∃k,x=.bl k/\Q k H'
def yx9{op:CmpOp}{r:R2}(ho:OpR X (compareOp op) r)(ha:PE X a ta)(hb:PE X b tb)(hm:behindInMarks op b=false):PT X (.Compare a [op] [b] pos) (uc8 (tOp r ta tb)):=by
 intro A3 s Y H Q I h;refine wpAny_isTrue_Compare1 (thn (ha A3 s Y H _ I h) λv s1 ⟨x,H1,I1,r1,q1⟩=>thn (hb A3 s1 Y H1 _ I1 q1) λu s2 ⟨y,H2,I2,r2,q2⟩=>thn (ho A3 s2 Y H2 x y v u _ I2 r1 r2 q2) λc s3 hI83=>?_) hm;obtain⟨z,H3,I3,r3,k,e,q3⟩:=hI83;subst e;cases r3;exact Ai1 ⟨H3,I3,q3⟩
instance wh3(r r':R2)(ta tb tc:TE):TE:=λY H Q=>ta Y H λx H1=>tb Y H1 λy H2=>r x y H2 λz H3=>∃k,z=.bl k/\
 (if k=true then tc Y H3 λw' H4=>r' y w' H4 Q else Q (.bl false) H3)
theorem wd4{op op':CmpOp}{r r':R2}(ho:OpR X (compareOp op) r)(ho':OpR X (compareOp op') r')(ha:PE X a ta)(hb:PE X b tb)(hc:PE X c tc)(hm:lastMarks [op,op'] [b,c]=false:=by with_unfolding_all rfl):PE X (.Compare a [op,op'] [b,c] pos) (wh3 r r' ta tb tc):=by
 intro A3 s Y H Q I h;refine Compare_chain (thn (ha A3 s Y H _ I h) λv s1 ⟨x,H1,I1,r1,q1⟩=>chain_link (thn (hb A3 s1 Y H1 _ I1 q1) λu s2 ⟨y,H2,I2,r2,q2⟩=>thn (ho A3 s2 Y H2 x y v u _ I2 r1 r2 q2) λd s3 hI84=>?_)) hm;obtain⟨z,H3,I3,r3,k,e,q3⟩:=hI84;subst e;cases r3;refine Ai1 ?_;cases k with
 | false=>exact ite_ff {.bl false,H3,I3,rfl,q3}
 | true=>exact ite_tt (chain_last (thn (hc A3 s3 Y H3 _ I3 q3) λw' s4 ⟨z',H4,I4,r4,q4⟩=>ho' A3 s4 Y H4 y z' u w' Q I4 r2 r4 q4))
def yt3:(sizeLine:Nat)<2 ^ 63:=by rw[sizeLine_eq];decide
theorem vh6(r:vc8 [x] us):∃u,us=[u]/\vc7 x u:=by
 cases r with
 | cons r1 r2=>cases r2;exact{_,rfl,r1}
theorem vs5(r:vc8 [x,y] us):∃u w',us=[u,w']/\vc7 x u/\vc7 y w':=by
 cases r with
 | cons r1 r2=>
   cases r2 with
   | cons r3 r4=>cases r4;exact{_,_,rfl,r1,r3}
def zo3(hc:X.calm=true):vf3 X (.builtin "min") (λxs H Q=>∃i j,xs=[.int i,.int j]/\Q (.int (if j<i then j else i)) H):=by
 intro A3 s Y H xs us Q I r h;obtain⟨i,j,rfl,q⟩:=h;obtain⟨u,w',rfl,⟨t,rfl⟩,⟨t',rfl⟩⟩:=vs5 r;refine min_two_ints (I.ok.hd hc) λh' tk k=>{_,H,I.kept k,?_,q}
 by_cases hj:j<i
 ·rw[if_pos hj,if_pos hj];exact{_,rfl}
 ·rw[if_neg hj,if_neg hj];exact{_,rfl}
def yg9:vf3 X (.type "int") (λxs H Q=>(∃i,xs=[.int i]/\Q (.int i) H)\/∃k,xs=[.bl k]/\Q (.int (if k then 1 else 0)) H):=by
 intro A3 s Y H xs us Q I r h;rcases h with⟨i,rfl,q⟩ | ⟨k,rfl,q⟩
 ·obtain⟨u,rfl,t,rfl⟩:=vh6 r
  exact call_int_int {.int i,H,I,{_,rfl},q}
 ·obtain⟨u,rfl,r1⟩:=vh6 r
  cases r1;exact call_int_bool {.int (if k then 1 else 0),H,I.tok _,{_,rfl},q}
def xa6:vf3 X (.builtin "divmod") (λxs H Q=>∃i j,xs=[.int i,.int j]/\vx3 i j/\∀p,H p=none->Q (.ref p) (upd H p (.tup [.int (i / j),.int (i % j)]))):=by
 intro A3 s Y H xs us Q I r h;obtain⟨i,j,rfl,⟨h1,h2⟩,q⟩:=h;obtain⟨u,w',rfl,⟨t,rfl⟩,⟨t',rfl⟩⟩:=vs5 r;refine divmod_int 'o' ?_ (.inl (PyProof.noPylong_small 'o'));rw[Int.fdiv_eq_ediv_of_nonneg i 'o',Int.fmod_eq_emod_of_nonneg i 'o'];have hn:H s.heap.objs.size=none:=I.hok.fresh (Ae0 _);refine{.ref s.heap.objs.size,_,?_,rfl,q _ hn};refine I.laid (λb o e=>Ab0 _ e) (Ae0 _) {by simp only[Ax0,Cn0];rw[sizeLine_eq];decide,[.int (i / j) s.toks,.int (i % j) (s.toks+1)],.cons {_,rfl} (.cons {_,rfl} .nil),?_};exact{{_,Ag0 s.heap rfl,rfl,0,rfl},{_,Ag0 _ rfl,rfl}}
structure ui8(h:Heap)(x dx C:Addr)(mA:Str->Option Value):Prop where
 obj:h.get? x=some (PySem.W.instObj C dx)
 ns:h.Ns1 dx mA
 ne:dx≠x
open H in
def xt9{h:Heap}{dx:Addr}{mA:Str->Option Value}(n:h.Ns1 dx mA):∃od,h.get? dx=some od/\∀name,PySem.W.lookIn name od=some (mA name):=by
 obtain⟨o,es,ep,ho,hd,hk,_,hm⟩:=n;refine{o,ho,λname=>?_};have e:=hm name;unfold nsFind findBy at e;rw[<-Array.find?_toList] at e;unfold PySem.W.lookIn;rw[hd];dsimp only;split
 ·rename_i y q
  rw[q] at e;exact congrArg some e
 ·rename_i q
  rw[q] at e;have a:es.toList.any (·.refKey)=false:=by
   rw[List.any_eq_false];intro y hy;obtain⟨z,t,hkey⟩:=hk y (Array.mem_toList_iff.mp hy);simp[DictEntry.refKey,hkey]
  have a':¬es.toList.any (·.refKey)=true:=by rw[a];exact Aq0
  rw[if_neg a'];exact congrArg some e
def ui8.look(I:ui8 h x dx C mA):∃od,PySem.W.InstAt h x (PySem.W.instObj C dx) C (some od)/\∀name,PySem.W.lookIn name od=some (mA name):=
 let ⟨od,ho,hl⟩:=xt9 I.ns
 {od,⟨I.obj,rfl,rfl,ho⟩,hl}
section
variable{prog:Program}{w:World}{A:Around}{E:Value->Shared->Prop}{s:Shared}{K:PySem.W.Frag}{x dx C f:Addr}{mA:Str->Option Value}{name:Str}{v:Value}
end
theorem vn8.some_of(r:vn8 (some v) o):∃u,o=some u/\vc7 v u:=by
 cases o with
 | none=>exact(show False from r).elim
 | some u=>exact⟨u,rfl,r⟩
def wq3(hok:HOk P w H h)(e:H a=some (.ins C dx fs)):∃mA,ui8 h a dx C mA/\(∀f,vn8 (fs.lookup f) (mA f))/\PySem.Within mA (fs.map (·.1))/\fs.length<=1000/\H dx=some (.own a):=by
 obtain⟨d,z,ne,ob,mA,n,r,q⟩:=(show vd4 P w H h a (.ins C dx fs) from hok a _ e);exact{mA,⟨ob,n,ne⟩,r,q,z,d}
structure Cls(K:PySem.W.Frag)(C:Addr):Prop where
 pg:PySem.W.plainGet K C Str.empty=true
 hd:PySem.W.hasDictIn K C=true
 po:PySem.W.plainOver K C=true
 sa:PySem.W.findIn K (.ref C) "__setattr__" = some (some (.builtin "object.__setattr__"))
def Cls.get{K:PySem.W.Frag}{C:Addr}(c:Cls K C)(f:Str):PySem.W.plainGet K C f=true:=c.pg
section
variable{f:Str}{X:Cx}{A3:List 'p'}{Y:St}{H:Hp}{s:Shared}{A:Around}{E Q:Value->Shared->Prop}{c:Value}{b:Bool}
inductive vo6(K:PySem.W.Frag)(H:Hp):V->Value->Prop where
 | non:vo6 K H .non (.type "NoneType")
 | bl (x:Bool):vo6 K H (.bl x) (.type "bool")
 | int (i:Int):vo6 K H (.int i) (.type "int")
 | str (x:Str):vo6 K H (.str x) (.type "str")
 | flt (x:UInt64):vo6 K H (.flt x) (.type "float")
 | lst {a:Addr} {xs:List V} (e:H a=some (.lst xs)):vo6 K H (.ref a) (.type "list")
 | frz {a:Addr} {o:Obj} {xs:List V} (e:H a=some (.frz o (.lst xs))):vo6 K H (.ref a) (.type "list")
 | tup {a:Addr} {xs:List V} (e:H a=some (.tup xs)):vo6 K H (.ref a) (.type "tuple")
 | dK {a:Addr} {kvs:List (Key×V)} (e:H a=some (.dK kvs)):vo6 K H (.ref a) (.type "dict")
 | dT {a:Addr} {kvs:List (List vc6×V)} (e:H a=some (.dT kvs)):vo6 K H (.ref a) (.type "dict")
 | ins {a C dx:Addr} {fs:List (Str×V)} (e:H a=some (.ins C dx fs)) (cl:Cls K C) (ha:PySem.W.findIn K (.ref C) "__class__" = some (some (.builtin "object.__class__")))
  (hn:PySem.W.specialIn K (.builtin "object.__class__") "__get__" = some (some (.builtin "getset_descriptor.__get__"))) (htk:PySem.W.takesIn K (.builtin "object.__class__")=some true)
  (hm:PySem.W.mroIn K C (.type "object")=some true):vo6 K H (.ref a) (.ref C)
theorem zk5(I:Inv X A3 Y H s)(rx:vc7 x u)(ty:vo6 X.K H x t)(e:PySem.W.kitOne X.K t c=some b)(h:∀tk,Q (.bool b) { s with toks:=tk }) :
 wpAny 'e' A (call (.builtin "isinstance") [u,c]) Q E s:=by
 cases ty with
 | non=>cases (show u=Value.none from rx);exact PySem.W.kia_one PySem.W.kitx_none I.kIn True.intro e (λz=>nomatch z) h
 | bl y=>cases (show u=Value.bool y from rx);exact PySem.W.kia_one PySem.W.kitx_bool I.kIn True.intro e (λz=>nomatch z) h
 | int i=>obtain⟨t,q⟩:=(show ∃t,u=Value.int i t from rx);cases q;exact PySem.W.kia_one PySem.W.kitx_int I.kIn True.intro e (λz=>nomatch z) h
 | str y=>obtain⟨t,q⟩:=(show ∃t,u=Value.str y t from rx);cases q;exact PySem.W.kia_one PySem.W.kitx_str I.kIn True.intro e (λz=>nomatch z) h
 | flt y=>obtain⟨t,q⟩:=(show ∃t,u=Value.float y t from rx);cases q;exact PySem.W.kia_one PySem.W.kitx_float I.kIn True.intro e (λz=>nomatch z) h
 | @lst a xs ea=>
   cases (show u=Value.ref a from rx);obtain⟨_,_,n,_,h1⟩:=(show vd4 X.prog X.w H s.heap a (.lst xs) from I.hok a _ ea);exact PySem.W.kia_one PySem.W.kitx_list I.kIn {_,h1,rfl} e (λz=>nomatch z) h
 | @frz a ob xs ea=>
   cases (show u=Value.ref a from rx);obtain⟨_,_,_,n,_,h1⟩:=(show vd4 X.prog X.w H s.heap a (.frz ob (.lst xs)) from I.hok a _ ea);exact PySem.W.kia_one PySem.W.kitx_list I.kIn {_,h1,rfl} e (λz=>nomatch z) h
 | @tup a xs ea=>
   cases (show u=Value.ref a from rx);obtain⟨_,_,_,p,_⟩:=(show vd4 X.prog X.w H s.heap a (.tup xs) from I.hok a _ ea);obtain⟨o,h1,h2,_⟩:=p;exact PySem.W.kia_one PySem.W.kitx_tuple I.kIn ⟨o,h1,h2⟩ e (λz=>nomatch z) h
 | @dK a kvs ea=>
   cases (show u=Value.ref a from rx);obtain⟨_,_,vs,_,p⟩:=(show vd4 X.prog X.w H s.heap a (.dK kvs) from I.hok a _ ea);obtain⟨o,es,ep,h1,h2,_⟩:=p;exact PySem.W.kia_one PySem.W.kitx_dict I.kIn ⟨o,h1,h2.1⟩ e (λz=>nomatch z) h
 | @dT a kvs ea=>
   cases (show u=Value.ref a from rx);obtain⟨_,_,xs,_,o,es,ep,h1,h2,_⟩:=(show vd4 X.prog X.w H s.heap a (.dT kvs) from I.hok a _ ea);exact PySem.W.kia_one PySem.W.kitx_dict I.kIn ⟨o,h1,h2.1⟩ e (λz=>nomatch z) h
 | @ins a C dx fs ea cl ha hn htk hm=>
   cases (show u=Value.ref a from rx);obtain⟨mA,O,_⟩:=wq3 I.hok ea;obtain⟨od,J,_⟩:=O.look;exact PySem.W.kia_one (PySem.W.kitx_own (cl.get _) cl.hd ha hn htk hm) I.kIn J e (λz=>nomatch z) h
end
structure vd5(k:Nat)(A:Around):Prop where
 hd:A.handled=none
 dp:A.depth+3*k+5<recursionLimit
 un:A.units+16*k+200<cLine
 gd:A.guards=some []
def vd5.mono{j k:Nat}(r:vd5 k A)(h:j<=k):vd5 j A:={r.hd,by have:=r.dp;omega,by have:=r.un;omega,r.gd}
def vd5.deeper{k:Nat}(r:vd5 (k+1) A)(env:Env):vd5 k (A.deeper env):=
 {r.hd,by have:=r.dp;show A.depth+1+3*k+5<_;omega,by have:=r.un;show A.units+3+16*k+200<_;omega,r.gd}
def vd5.depth{k:Nat}(r:vd5 k A):A.depth<recursionLimit:=by have:=r.dp;omega
def vd5.units{k:Nat}(r:vd5 k A):A.units+64<cLine:=by have:=r.un;omega
instance ud2:TA:=λ_ H Q=>Q [] H
instance vl5(ta:TE)(tr:TA):TA:=λY H Q=>ta Y H λx H1=>tr Y H1 λxs H2=>Q (x::xs) H2
def zn8:PA X [] ud2:=λ_ _ _ _ H Q I h=>Calls.spliced_nil {[],H,I,.nil,h}
def zf6(ha:PE X e te)(hr:PA X es t)(hs:autoParam (starEach (e::es) X.env=(false,eval e X.env)::starEach es X.env) uR):PA X (e::es) (vl5 te t):=by
 intro pos A3 s Y H Q I h;rw[hs];show wpAny _ _ (spliced ((false,eval e X.env)::backTo pos (starEach es X.env))) _ _ s;refine Calls.spliced_cons (thn (ha A3 s Y H _ I h) λu s1 hI85=>?_);obtain⟨x,H1,I1,r1,q1⟩:=hI85;exact thn (hr pos A3 s1 Y H1 _ I1 q1) λus s2 ⟨xs,H2,I2,r2,q2⟩=>{x::xs,H2,I2,.cons r1 r2,q2}
instance ul5(t:TA):TE:=λY H Q=>t Y H λxs H1=>xs.length<=sizeLine/\∀p,H1 p=none->Q (.ref p) (upd H1 p (.tup xs))
instance um0(t:TA):TE:=λY H Q=>t Y H λxs H1=>xs.length<=sizeLine/\∀p,H1 p=none->Q (.ref p) (upd H1 p (.lst xs))
def wi2{x1}(h:PA X es t):PE X (.Tuple es x1 pos) (ul5 t):=by
 intro A3 s Y H Q I hq;refine wpAny_Tuple_spliced (thn (h pos A3 s Y H _ I hq) λus s1 ⟨xs,H1,I1,r,z,q⟩=>{by rw[<-r.length];exact z,?_});have hf:H1 s1.heap.objs.size=none:=I1.hok.fresh (Ae0 _);refine{.ref s1.heap.objs.size,upd H1 s1.heap.objs.size (.tup xs),I1.laid (t':=s1.toks) (λb u e=>Ab0 _ e) (Ae0 _) ?_,rfl,q _ hf};exact{z,us,r,{_,Ag0 _ rfl,rfl,_,rfl},{_,Ag0 _ rfl,rfl}}
def xr0(h:PA X es t):PE X (.List es pos) (um0 t):=by
 intro A3 s Y H Q I hq;refine wpAny_List_spliced (thn (h pos A3 s Y H _ I hq) λus s1 ⟨xs,H1,I1,r,z,q⟩=>{by rw[<-r.length];exact z,?_});have hf:H1 s1.heap.objs.size=none:=I1.hok.fresh (Ae0 _);refine{.ref s1.heap.objs.size,upd H1 s1.heap.objs.size (.lst xs),I1.laid (t':=s1.toks) (λb u e=>Ab0 _ e) (Ae0 _) ?_,rfl,q _ hf};exact{z,us,0,r,Ag0 _ rfl}
noncomputable abbrev Sp:=List V->Hp->VK->XK->Prop
noncomputable abbrev CXT:=List Env->Hp->Shared->XK->Value->Shared->Prop
structure uc2(P:Program)(w:World)(K:PySem.W.Frag)(mg:Str->Option Value)(base:Heap)(A:Around)(outer:List Env)(s:Shared)(H:Hp):Prop where
 frames:A.frames=some outer
 mod:Mod K mg base
 bs:∀b o,base.get? b=some o->s.heap.get? b=some o/\H b=none
 bsz:base.objs.size<=s.heap.objs.size
 funs:s.heap.FunFrames base outer
 frf:∀b∈frs outer,H b=none
 hok:HOk P w H s.heap
 bare:AllBare s.gens
instance CE(outer:List Env)(P:Program)(w:World)(H:Hp)(s:Shared)(Q:VK)(u:Value)(s':Shared):Prop:=
 ∃v H',s'.os=s.os/\AllBare s'.gens/\Un (frs outer) [] H H' s.heap s'.heap/\HOk P w H' s'.heap/\vc7 v u/\Q v H'
instance CR(CX:CXT)(outer:List Env)(P:Program)(w:World)(H:Hp)(s:Shared)(Q:VK)(E:XK)(r:Result)(s':Shared):Prop:=
 match r with
 | .ok (.ret u)=>CE outer P w H s Q u s'
 | .ok _=>False
 | .error e=>CX outer H s E e s'
structure vk3(P:Program)(w:World)(K:PySem.W.Frag)(mg:Str->Option Value)(base:Heap)(CX:CXT)(k:Nat)(f:Addr)(fd:FuncData)(ps:List Str)(sp:Sp):Prop where
 len:∀vs H Q E,sp vs H Q E->vs.length=ps.length
 run:∀(A:Around) (outer:List Env) (s:Shared) (H:Hp) (args:Args) (us:List Value) (vs:List V) (Q:VK) (E:XK),vd5 k A->uc2 P w K mg base A outer s H->BindsTo s fd args (ps.zip us)->vc8 vs us->sp vs H Q E->
  codeAny (model P w) A (.call (.ref f) args) (CR CX outer P w H s Q E) s
def vk3.mono{P:Program}{w:World}{K:PySem.W.Frag}{mg:Str->Option Value}{base:Heap}{CX:CXT}{j k:Nat}{f:Addr}{fd:FuncData}{ps:List Str}{sp:Sp}(F:vk3 P w K mg base CX j f fd ps sp)(h:j<=k) :
 vk3 P w K mg base CX k f fd ps sp:={F.len,λA outer s H args us vs Q E hr=>F.run A outer s H args us vs Q E (hr.mono h)}
def Inv.env0(I:Inv X A3 Y H s):uc2 X.prog X.w X.K X.mg X.base X.A X.stack s H:=
 {I.ok.frames,I.ok.mod,I.bs,Ap0 I.ok.bsz I.sz,I.stack,I.stkFree,I.hok,I.bare}
def Inv.after(I:Inv X A3 Y H s)(h:CE X.stack X.prog X.w H s Q u s'):EP X A3 Y Q u s':=by
 obtain⟨v,H',os,bare,un,hok,r,q⟩:=h;obtain⟨hh,g,d,t,os'⟩:=s';obtain rfl:os'=s.os:=os;exact{v,H',I.call (h':=hh) (g':=g) (d':=d) (t':=t) (ch:=[]) un hok bare (λb z=>absurd z 'd'),r,q}
instance vq4(sp:Sp)(dvs:List V)(E:XK)(t:TA):TE:=λY H Q=>t Y H λvs H1=>sp (vs++dvs) H1 Q E
instance vo1(K:PySem.W.Frag)(fd:FuncData)(ps:List Str)(ds:List Value):Prop:=
 ∀(s:Shared) (us:List Value),K.In s.heap->(us++ds).length=ps.length->BindsTo s fd {us,[]} (ps.zip (us++ds))
def vo1.all{K:PySem.W.Frag}{fd:FuncData}{ps:List Str}(h:∀us:List Value,us.length=ps.length->bindArgs fd {us,[]}=pure (ps.zip us)):vo1 K fd ps []:=λs us _ hl=>by
 rw[Bh0] at hl ⊢;exact .of_eq (h us hl)
instance wa6(CX:CXT)(X:Cx)(E:XK):Prop:=∀(A3:List 'p') (Y:St) (H:Hp) (s:Shared) (e:Value) (s':Shared),Inv X A3 Y H s->CX X.stack H s E e s'->X.xe e s'
section
variable{X:Cx}{CX:CXT}{k:Nat}{f C:Addr}{fd:FuncData}{ps:List Str}{sp:Sp}{dvs:List V}{ds:List Value}{E:XK}{x m:Str}{p pos apos:Pos}{e o:Expr}{es:List Expr}{ta:TE}{t:TA}{ks:List Str}{kpos:Pos}{kws:List Keyword}{te:TE}{tk:TA}{nm:Option Str}
open H in
theorem wu8{A3:List 'p'}{Y:St}{H:Hp}{s:Shared}{Q:VK}{us:List Value}{vs:List V}(F:vk3 X.prog X.w X.K X.mg X.base CX k f fd ps sp)(hr:vd5 k X.A)(hb:vo1 X.K fd ps ds)(hd:vc8 dvs ds)(hx:wa6 CX X E)(I:Inv X A3 Y H s)(r:vc8 vs us)(h:sp (vs++dvs) H Q E):wpAny 'e' X.A (call (.ref f) us) (EP X A3 Y Q) X.xe s:=by
 have r2:vc8 (vs++dvs) (us++ds):=r.append hd;have hl:(us++ds).length=ps.length:=by rw[<-r2.length];exact F.len _ _ _ _ h
 refine wpAny_call (codeAny_mono (F.run X.A X.stack s H {us,[]} (us++ds) (vs++dvs) Q E hr I.env0 (hb s us I.kIn hl) r2 h) λr s' hq=>?_);cases r with
 | error e=>exact hx A3 Y H s e s' I hq
 | ok fl=>
   cases fl with
   | ret u=>exact I.after hq
   | next=>exact False.elim hq
   | brk=>exact False.elim hq
   | cont=>exact False.elim hq
def ym5(F:vk3 X.prog X.w X.K X.mg X.base CX k f fd ps sp)(hr:vd5 k X.A)(hg:Gl X x)(hm:X.mg x=some (.ref f))(hk:keepIn X.K (.ref f)=true)(hb:vo1 X.K fd ps ds)(hd:vc8 dvs ds)(hx:wa6 CX X E)(ha:PA X (e::es) t)(hdb:autoParam ((x == ("__debug__" : Str))=false) uD)(he:autoParam (starEach (e::es) X.env=(false,eval e X.env)::starEach es X.env) uR)(hpl:autoParam ((backTo pos (starEach es X.env)).any (·.1)=false) uR) :
 PE X (.Call (.Name x p) (e::es) [] pos) (vq4 sp dvs E t):=by
 intro A3 s Y H Q I h;refine wpAny_Call_Name_kw (xu0 I hg hm ?_ hdb);refine PySem.W.callWith_K (h₀:=X.base) I.ok.mod.kin hk (thn (ha pos A3 s Y H _ I h) λus s1 ⟨vs,H1,I1,r,q⟩=>{I1.kIn,?_}) he hpl;exact wu8 F hr hb hd hx I1 r q
end
structure zc2(N P:List Str)(sc:Scope):Prop where
 kind:sc.kind=.function
 co:sc.isCoroutine=false
 gen:sc.isGenerator=false
 nd:N.Nodup
 pre:N.take P.length=P
 par:∀x∈P,sc.names.lookup x=some .local\/sc.names.lookup x=some .cell
 nofree:∀y∈sc.names,y.2≠.free
theorem yw2{kindOf:Str->Option NameKind}{x:Str}:∀{binds:List (Str×Value)} {m:Str->Option Value},(∀v,(x,v)∉binds)->bindL kindOf binds m x=m x
 | [],_,_=>rfl
 | (n,v)::r,m,h=>by
   unfold bindL;rw[yw2 λw hw=>h w (Bg0 _ hw)];split
   ·have:x≠n:=by rintro rfl;exact h v Bi0
    simp[this]
   ·rfl
theorem yw4{kindOf:Str->Option NameKind}{x:Str}:∀{binds:List (Str×Value)} {m:Str->Option Value},(∀v,(x,v)∉binds)->bindC kindOf binds m x=m x
 | [],_,_=>rfl
 | (n,v)::r,m,h=>by
   unfold bindC;rw[yw4 λw hw=>h w (Bg0 _ hw)];split
   ·rfl
   ·have:x≠n:=by rintro rfl;exact h v Bi0
    simp[this]
theorem yw3{kindOf:Str->Option NameKind}{x:Str}{v:Value}:∀{P:List Str} {vs:List Value} {i:Nat} {m:Str->Option Value},P.Nodup->P[i]?=some x->vs[i]?=some v->kindOf x=some .local->
 bindL kindOf (P.zip vs) m x=some v
 | [],_,_,_,_,h,_,_=>by simp at h
 | _::_,[],_,_,_,_,h,_=>by simp at h
 | p::P,w::vs,0,m,nd,h1,h2,hk=>by
   simp at h1 h2;subst h1;subst h2;show bindL kindOf ((p,w)::P.zip vs) m p=_;unfold bindL;rw[yw2 λv hv=>(Ch0.mp nd).1 (List.of_mem_zip hv).1,if_pos hk];simp
 | p::P,w::vs,i+1,m,nd,h1,h2,hk=>by
   show bindL kindOf ((p,w)::P.zip vs) m x=_;unfold bindL;exact yw3 (i:=i) (Ch0.mp nd).2 (by simpa using h1) (by simpa using h2) hk
theorem yw5{kindOf:Str->Option NameKind}{x:Str}{v:Value}:∀{P:List Str} {vs:List Value} {i:Nat} {m:Str->Option Value},P.Nodup->P[i]?=some x->vs[i]?=some v->kindOf x≠some .local->
 bindC kindOf (P.zip vs) m x=some v
 | [],_,_,_,_,h,_,_=>by simp at h
 | _::_,[],_,_,_,_,h,_=>by simp at h
 | p::P,w::vs,0,m,nd,h1,h2,hk=>by
   simp at h1 h2;subst h1;subst h2;show bindC kindOf ((p,w)::P.zip vs) m p=_;unfold bindC;rw[yw4 λv hv=>(Ch0.mp nd).1 (List.of_mem_zip hv).1,if_neg hk];simp
 | p::P,w::vs,i+1,m,nd,h1,h2,hk=>by
   show bindC kindOf ((p,w)::P.zip vs) m x=_;unfold bindC;exact yw5 (i:=i) (Ch0.mp nd).2 (by simpa using h1) (by simpa using h2) hk
instance ve9(N:List Str)(vs:List V):St:=vs.map some++List.replicate (N.length-vs.length) none
instance vf7(CX:CXT)(P:Program)(w:World)(K:PySem.W.Frag)(mg:Str->Option Value)(base:Heap)(N:List Str)(qual:Str)(scope:Scope)(f:Addr)(cd:Value)(A:Around)(outer:List Env)(s:Shared)(H:Hp)(E:XK):Cx where
 prog:=P
 w:=w
 K:=K
 mg:=mg
 base:=base
 A:=A.deeper (envOfC qual scope s.heap.objs.size f cd)
 N:=N
 s₀:=s
 H₀:=H
 env:=envOfC qual scope s.heap.objs.size f cd
 outer:=outer
 stack:=envOfC qual scope s.heap.objs.size f cd::outer
 ex:=[]
 calm:=true
 fn:=λ_=>true
 pn:=[]
 xe:=λe s'=>wpAny (model P w) (A.deeper (envOfC qual scope s.heap.objs.size f cd)) (leaving (envOfC qual scope s.heap.objs.size f cd) e) (λ_ s''=>CX outer H s E e s'') (λe' s''=>CX outer H s E e' s'') s'
def xh7{sc:Scope}{n:Nat}{x:Str}(h:sc.names.lookup x=some .cell):∃c,(cellsFrom n sc.names []).lookup x=some c:=by
 have q:=PySem.W.cellsFrom_some sc.names n [] (.inl h);exact Option.isSome_iff_exists.mp q
def xw3{CX:CXT}{P:Program}{w:World}{K:PySem.W.Frag}{mg:Str->Option Value}{base:Heap}{N ps:List Str}{qual:Str}{scope:Scope}{f:Addr}{cd:Value}{A:Around}{outer:List Env}{s s1:Shared}{H:Hp}{E:XK}{us:List Value}{vs:List V}(S:zc2 N ps scope)(hd:A.handled=none)(e0:uc2 P w K mg base A outer s H)(hl:vs.length=ps.length)(r:vc8 vs us)(x:InCallC s s.heap.objs.size (bindL (envOfC qual scope s.heap.objs.size f cd).kindOf (ps.zip us) λ_=>none) (cellsFrom (s.heap.objs.size+1) scope.names []) (bindC (envOfC qual scope s.heap.objs.size f cd).kindOf (ps.zip us) λ_=>none) s1) :
 Inv (vf7 CX P w K mg base N qual scope f cd A outer s H E) [] (ve9 N vs) H s1:=by
 have hpl:ps.length<=N.length:=by have:=congrArg List.length S.pre;rw[Be0] at this;omega
 obtain⟨h1,tk,rfl,hk⟩:=x.done;have noA:∀b:Addr,b∉(vf7 CX P w K mg base N qual scope f cd A outer s H E).ex:=λb z=>absurd (show b∈([]:List Addr) from z) 'd'
 refine{{e0.mod,S.kind,rfl,rfl,Ae0 _,λy z c h1 h2=>?_,λy hy=>?_,λy c _ h=>?_,λ_=>hd,Around.frames_deeper e0.frames,.inr ⟨rfl,rfl⟩,λb z=>absurd z (noA b),e0.bs,e0.bsz,λb _ _=>noA b,λb z=>absurd z (noA b),e0.funs,e0.frf},rfl,e0.bare,Un.kept hk,{_,x.toInCall.ns,λi y v h1 h2 h3=>?_},λy c h=>{_,x.cell y c h},e0.hok.fresh (Ae0 _),λy c h=>?_,λp hp=>absurd (show p∈([]:List 'p') from hp) 'd',e0.hok.kept hk,?_}
 ·exact name_of_addr x.apart (PySem.mem_of_lookup h1) (PySem.mem_of_lookup h2)
 ·have hy:scope.names.lookup y=some .cell\/scope.names.lookup y=some .free:=hy
  rcases hy with hy | hy
  ·exact xh7 hy
  ·exact absurd rfl (S.nofree _ (PySem.mem_of_lookup hy))
 ·exact Cq0 (x.above y c (PySem.mem_of_lookup h))
 ·have hi:i<vs.length:=by
   unfold ve9 at h2;by_cases hi:i<vs.length
   ·exact hi
   ·rw[Cp0 (by simpa using hi)] at h2
    rw[Cw0] at h2;split at h2<;>cases h2
  have ha:vs[i]?=some v:=by
   unfold ve9 at h2;rw[Br0 (by simpa using hi),Af0] at h2;cases e:vs[i]? with
   | none=>rw[e] at h2;cases h2
   | some a=>rw[e] at h2;cases h2;rfl
  obtain⟨u,hu,rv⟩:=r.get ha;have hp:ps[i]?=some y:=by
   rw[<-S.pre,List.getElem?_take_of_lt 'o'];exact h1
  have ndP:ps.Nodup:=by rw[<-S.pre];exact S.nd.sublist (List.take_sublist _ _)
  refine{u,rv,?_};rcases S.par y (Am0 hp) with k | k
  ·exact .inl {k,yw3 ndP hp hu k}
  ·obtain⟨c,e⟩:=xh7 (n:=s.heap.objs.size+1) k
   refine .inr {.inl k,c,e,?_};have q:=x.cell y c e;rw[yw5 ndP hp hu (by show scope.names.lookup y≠_;rw[k];decide)] at q;exact q
 ·exact e0.hok.fresh (Cq0 (x.above y c (PySem.mem_of_lookup h)))
 ·unfold ve9
  show _=N.length;rw[Ak0,Aa0,Ea0];omega
open H in
theorem ug7{CX:CXT}{P:Program}{w:World}{K:PySem.W.Frag}{mg:Str->Option Value}{base:Heap}{k:Nat}{f:Addr}{name qual:Str}{params:Arguments}{body:List Stmt}{scope:Scope}{dV kV doc pm cdv ct oc:Value}{an od:Option Addr}{osl:Array (Option Value)}{N ps:List Str}{sp:Sp}(lk:K.lookup f=some {oc,od,.func (fnOf name qual params body scope dV kV doc pm an cdv ct),osl})(hcd:codeIn K cdv qual=true)(S:zc2 N ps scope)(len:∀vs H Q E,sp vs H Q E->vs.length=ps.length)(hbody:∀(A:Around) (outer:List Env) (s:Shared) (H:Hp) (vs:List V) (Q:VK) (E:XK),vd5 k (A.deeper (envOfC qual scope s.heap.objs.size f cdv))->sp vs H Q E->
  ∃t,PSs (vf7 CX P w K mg base N qual scope f cdv A outer s H E) body t/\t { nx:=λ_ H'=>Q .non H',rt:=Q } (ve9 N vs) H) :
 vk3 P w K mg base CX (k+1) f (fnOf name qual params body scope dV kV doc pm an cdv ct) ps sp:=by
 refine{len,λA outer s H args us vs Q E hr e0 hb r hsp=>?_};have hl:=len _ _ _ _ hsp;have KX:K.In s.heap:=e0.mod.kin.keeps λb o e=>(e0.bs b o e).1
 have lim:s.heap.NoLimit:=e0.mod.nolimit.keeps λb o e=>(e0.bs b o e).1
 have hkind:∀y∈ps.zip us,scope.names.lookup y.1=some .local\/(scope.names.lookup y.1=some .cell/\((cellsFrom (s.heap.objs.size+1) scope.names []).lookup y.1).isSome=true):=λhI2 hy=>by
  obtain⟨n,v⟩:=hI2;rcases S.par n (List.of_mem_zip hy).1 with q | q
  ·exact .inl q
  ·exact .inr {q,PySem.W.cellsFrom_some _ _ _ (.inl q)}
 refine codeAny_call_function hr.depth (KX _ _ lk) rfl S.co S.gen rfl (PySem.W.codeRec_of KX hcd) (hb _ _ _ _ ?_);refine wpAny_newFunctionEnv_cells S.kind hkind λenv he s1 x=>?_
 subst he;refine{lim.keeps x.toInCall.keep,codeAny_func ?_};obtain⟨t,ht,hq⟩:=hbody A outer s H vs Q E (hr.deeper _) hsp;have I:Inv (vf7 CX P w K mg base N qual scope f cdv A outer s H E) [] (ve9 N vs) H s1:=xw3 S hr.hd e0 hl r x;refine Ah1 (ht [] s1 (ve9 N vs) H _ I hq) (λfl s' hs=>?_) λe s' hs=>hs
 have fin:∀{Y':St} {H':Hp} {v:V} {u:Value},Inv (vf7 CX P w K mg base N qual scope f cdv A outer s H E) [] Y' H' s'->vc7 v u->Q v H'->CE outer P w H s Q u s':=
  λ{Y' H' v u} J rv q=>⟨v,H',J.os,J.bare,J.base,J.hok,rv,q⟩
 cases fl with
 | ret u=>
   obtain⟨v,Y',H',J,rv,q⟩:=hs;exact fin J rv q
 | next=>
   obtain⟨Y',H',J,q⟩:=hs;exact fin (v:=V.non) (u:=Value.none) J rfl q
 | brk=>
   obtain⟨_,_,_,q⟩:=hs;exact False.elim q
 | cont=>
   obtain⟨_,_,_,q⟩:=hs;exact False.elim q
section
variable{x:Str}{id T:String}
instance tCB(r:List V->Hp->VK->Prop)(t:TA):TE:=λY H Q=>t Y H λvs H1=>r vs H1 Q
def zw1(hc:vf3 X (.builtin id) r)(hg:Gl X x)(hm:X.mg x=none)(hv:bootBuiltins x=some (.builtin id))(ha:PA X (e::es) t)(hn:autoParam (x≠"__name__") uD)(hdb:autoParam ((x == ("__debug__" : Str))=false) uD)(he:autoParam (starEach (e::es) X.env=(false,eval e X.env)::starEach es X.env) uR)(hpl:autoParam ((backTo pos (starEach es X.env)).any (·.1)=false) uR):PE X (.Call (.Name x p) (e::es) [] pos) (tCB r t):=by
 intro A3 s Y H Q I h;refine wpAny_Call_Name_kw (zz8 I hg hm hv ?_ hn hdb);exact PyProof.Rows.callWith_builtin1 (thn (ha pos A3 s Y H _ I h) λus s1 ⟨vs,H1,I1,r1,q1⟩=>hc A3 s1 Y H1 vs us Q I1 r1 q1) he hpl
def ys1(hc:vf3 X (.type T) r)(hg:Gl X x)(hm:X.mg x=none)(hv:bootBuiltins x=some (.type T))(ha:PA X (e::es) t)(hn:autoParam (x≠"__name__") uD)(hdb:autoParam ((x == ("__debug__" : Str))=false) uD)(he:autoParam (starEach (e::es) X.env=(false,eval e X.env)::starEach es X.env) uR)(hpl:autoParam ((backTo pos (starEach es X.env)).any (·.1)=false) uR):PE X (.Call (.Name x p) (e::es) [] pos) (tCB r t):=by
 intro A3 s Y H Q I h;refine wpAny_Call_Name_kw (zz8 I hg hm hv ?_ hn hdb);exact PyProof.Rows.callWith_type1 (thn (ha pos A3 s Y H _ I h) λus s1 ⟨vs,H1,I1,r1,q1⟩=>hc A3 s1 Y H1 vs us Q I1 r1 q1) he hpl
end
end L2
namespace HT
open PySem PyProof.Rows
instance vg6:List Int->List Int->Bool
 | [],[]=>false
 | [],_::_=>true
 | _::_,[]=>false
 | x::xs,y::ys=>if x=y then vg6 xs ys else decide (x<y)
def xl4(x y:Int)(xs ys:List Int):vg6 (x::xs) (y::ys)=if x=y then vg6 xs ys else decide (x<y):=rfl
def yn5:vg6 [] []=false:=rfl
def yh4(y:Int)(ys:List Int):vg6 [] (y::ys)=true:=rfl
def yh5(x:Int)(xs:List Int):vg6 (x::xs) []=false:=rfl
def wf5(A:Around)(s:Shared)(a:Int)(t:Tok)(c:Int)(u:Tok):∃e,SeqAt.EqAt A s (.int a t) (.int c u) e/\(e=true↔a=c):=
 {(a == c),SeqAt.EqAt.int_int a t c u,'d'}
def wc4(A:Around)(s:Shared)(a:Int)(t:Tok)(c:Int)(u:Tok)(prog:Program)(w:World)(E:Value->Shared->Prop)(Q:Value->Shared->Prop)(h:Q (.bool (decide (a<c))) s) :
 wpAny 'r' A (richCompare .Lt (.int a t) (.int c u)) Q E s:=
 (PyProof.Rows.lt_int h:wpAny 'r' A (compareOp .Lt (.int a t) (.int c u)) Q E s)
section
open PySem.SeqAt
open PySem.AutoSeq1 (wpAny_loadPart')
open PySem.MeetsSeq PySem.MeetsSeq2 PySem.MeetsSeq3
def yl6(l b:Addr)(items items2:Array Value)(n n2:Nat)(dd dd2:Option Addr)(sl sl2:Array (Option Value))(ns ms:List Int)(hi:IntsAre items.toList ns)(hj:IntsAre items2.toList ms) :
 Meets (Builtin.«tuple.__lt__» {[.ref l,.ref b],[]})
  (λ_ R s=>s.heap.get? l=some { cls:=.type "tuple",dict:=dd,data:=.seq items n,slots:=sl }/\s.heap.get? b=some { cls:=.type "tuple",dict:=dd2,data:=.seq items2 n2,slots:=sl2 }/\
   R (.ok (.ret (.bool (vg6 ns ms)))) s):=
 .of_wp λprog w A R s h=>by
  obtain⟨hp,g,d,tk,os⟩:=s;obtain⟨hl,hb,h⟩:=h;have f2:=AutoSeq1.sub_tuple_tuple;have z1:items.size=ns.length:=by rw[<-hi.length];simp
  have z2:items2.size=ms.length:=by rw[<-hj.length];simp
  wp_walk using wpAny_loadPart' hl,wpAny_loadPart' hb,wpAny_forIn_list _ (λrest b s'=>b.1=none/\s'=⟨hp,g,d,tk,os⟩/\∃(vs ws:List Value) (ns' ms':List Int),rest=vs.zip ws/\
   IntsAre vs ns'/\IntsAre ws ms'/\ns'.length+items2.size=ms'.length+items.size/\R (.ok (.ret (.bool (vg6 ns' ms')))) ⟨hp,g,d,tk,os⟩) _
  case turn=>
   rintro ⟨y,x⟩ rest b s' ⟨hb',rfl,vs,ws,ns',ms',hz,hvi,hwi,hlen,hR⟩;cases hvi with
   | nil=>rw[List.zip_nil_left] at hz;cases hz
   | cons a t hvi'=>
     cases hwi with
     | nil=>rw[List.zip_nil_right] at hz;cases hz
     | cons c u hwi'=>
       rw[List.zip_cons_cons] at hz;injection hz with hyx hrest
       injection hyx with hy hx
       subst hy hx;rw[xl4] at hR;simp only[Ax0] at hlen;obtain⟨e,he,hiff⟩:=wf5 A.in1 ⟨hp,g,d,tk,os⟩ a t c u;refine Aa1 (he prog w _ _ ?_);cases e with
       | true=>
         rw[if_pos (hiff.mp rfl)] at hR
         wp_walk
         exact{rfl,rfl,_,_,_,_,hrest,hvi',hwi','o',hR}
       | false=>
         rw[if_neg (λq=>absurd (hiff.mpr q) Aq0)] at hR;have hri:=wc4 A.in1 ⟨hp,g,d,tk,os⟩ a t c u prog w
         wp_walk using hri
         exact{_,rfl,by simpa using hR}
  case fin=>
   rintro ⟨b1,b2⟩ s' ⟨hb',rfl,vs,ws,ns',ms',hz,hvi,hwi,hlen,hR⟩;simp only at hb';subst hb';have hv:vg6 ns' ms'=decide (items.size<items2.size):=by
    cases hvi with
    | nil=>
      cases hwi with
      | nil=>
        simp only[Cn0] at hlen;rw[yn5];exact(Ao1 'o').symm
      | cons c u hw=>
        simp only[Cn0,Ax0] at hlen;rw[yh4];exact(Ap1 'o').symm
    | cons a t hv=>
      cases hwi with
      | nil=>
        simp only[Cn0,Ax0] at hlen;rw[yh5];exact(Ao1 'o').symm
      | cons c u hw=>
        rw[List.zip_cons_cons] at hz;cases hz
   rw[hv] at hR
   wp_walk
   exact{_,rfl,by simpa [Builtin.Tuple.tupleCompareSizes] using hR}
  case h=>
   exact{rfl,rfl,items.toList,items2.toList,ns,ms,rfl,hi,hj,'o',h}
end
def xl3{ns ms:List Int}(hl:IsTup s.heap l items)(hb:IsTup s.heap b items2)(hi:IntsAre items.toList ns)(hj:IntsAre items2.toList ms)(hu:A.units<cLine)(h:Q (.bool (vg6 ns ms)) s):wpAny 'r' A (compareOp .Lt (.ref l) (.ref b)) Q E s:=by
 obtain⟨⟨cls,dd,data,sl⟩,ho,hc,n,hd⟩:=id hl;obtain⟨⟨cls2,dd2,data2,sl2⟩,ho2,hc2,n2,hd2⟩:=id hb;simp only at hc hd hc2 hd2;subst hc hd hc2 hd2;exact richCompare_meets_room (op:=.Lt) {_,ho,rfl} {_,ho2,rfl} PySem.F.slot_tuple_lt PySem.F.entry_tuple_lt (PySem.F.args_tuple_lt_2 _ _) (yl6 l b items items2 n n2 dd dd2 sl sl2 ns ms hi hj)
  {ho,ho2,show Value.bool (vg6 ns ms)≠Value.notImplemented/\Q (.bool (vg6 ns ms)) s from{(λx=>nomatch x),h}} hu
def cat_tup(ht:IsTup s.heap t vs.toArray)(hb:IsTup s.heap b ws.toArray)(hv:vs≠[])(h1:ws=[]->Q (.ref t) s)(h2:ws≠[]->Q (.ref s.heap.objs.size) { s with heap:=s.heap.push { cls:=.type "tuple",data:=.seq (vs++ws).toArray } })(hsz:vs.length+ws.length<=sizeLine):wpAny 'r' A (binaryOp .Add (.ref t) (.ref b)) Q E s:=by
 obtain⟨⟨cls,dd,data,sl⟩,ho,hc,n,hd⟩:=id ht;obtain⟨⟨cls2,dd2,data2,sl2⟩,ho2,hc2,n2,hd2⟩:=id hb;simp only at hc hd hc2 hd2;subst hc hd hc2 hd2;have e:vs.toArray++ws.toArray=(vs++ws).toArray:=by simp
 by_cases hw:ws=[]
 ·exact concat_meets {_,ho,rfl} {_,ho2,rfl} noFill_tuple_add seq_tuple_add PySem.F.slot_tuple_add PySem.F.entry_tuple_add (PySem.F.args_tuple_add_2 _ _)
   (tuple_addW1 t b vs.toArray ws.toArray n n2 dd dd2 sl sl2 (by simpa using hv) (by simp[hw])) {ho,ho2,h1 hw}
 ·refine concat_meets {_,ho,rfl} {_,ho2,rfl} noFill_tuple_add seq_tuple_add PySem.F.slot_tuple_add PySem.F.entry_tuple_add (PySem.F.args_tuple_add_2 _ _)
   (tuple_addW2 t b vs.toArray ws.toArray n n2 dd dd2 sl sl2 (by simpa using hv) (by simpa using hw) (by rw[Ai0,Ai0];exact hsz)) {ho,ho2,?_}
  rw[e];exact h2 hw
instance sIx(n d:Nat):Option Int->Nat
 | none=>d
 | some v=>if v<0 then (v+(n:Int)).toNat else min v.toNat n
def sIx_none(n d:Nat):sIx n d none=d:=rfl
def sIx_nat(n d k:Nat):sIx n d (some (k:Int))=min k n:=by
 show (if (k:Int)<0 then ((k:Int)+(n:Int)).toNat else min (k:Int).toNat n)=min k n;rw[if_neg 'o',Bp0]
theorem wu7(n d:Nat)(hd:d<=n)(o:Option Int):sIx n d o<=n:=by
 cases o with
 | none=>exact hd
 | some v=>
   show (if v<0 then (v+(n:Int)).toNat else min v.toNat n)<=n;by_cases hv:v<0
   ·rw[if_pos hv];omega
   ·rw[if_neg hv];exact Nat.min_le_right _ _
def xz3(v:Int)(n d:Nat):(if v<0 then max (v+(n:Int)) 0 else min v (n:Int))=((sIx n d (some v):Nat):Int):=by
 show (if v<0 then max (v+(n:Int)) 0 else min v (n:Int))=(((if v<0 then (v+(n:Int)).toNat else min v.toNat n):Nat):Int);by_cases hv:v<0
 ·simp only[if_pos hv];omega
 ·simp only[if_neg hv];omega
def xm2(lo hi:Option Int)(n:Nat):Builtin.Slice.sliceAdjust lo hi 1 (n:Int)=(((sIx n 0 lo:Nat):Int),((sIx n n hi:Nat):Int)):=by
 have h1:¬((1:Int)<0):=by omega
 unfold Builtin.Slice.sliceAdjust;simp only[h1,if_false];refine Prod.ext ?_ ?_
 ·cases lo with
  | none=>rfl
  | some v=>exact xz3 v n 0
 ·cases hi with
  | none=>rfl
  | some v=>exact xz3 v n n
def xk5(i j:Nat):Builtin.Slice.slicePlaces (i:Int) (j:Int) 1=j-i:=by
 unfold Builtin.Slice.slicePlaces;have h1:(1:Int)>0:=by omega
 simp only[h1,if_true,Int.ediv_one];split<;>omega
theorem yi2(p:IsPart v o)(h:Q o s):wpAny 'r' A (Builtin.Slice.slicePartIndex v) Q E s:=by
 cases p with
 | none=>exact slicePart_none h
 | int i t=>exact slicePart_int h
def ya4{sl:Addr}{vl vu:Value}{lo hi:Option Int}{n:Nat}{Q:Int×Int×Nat->Shared->Prop}(hs:s.heap.IsSliceOf sl vl vu .none)(pl:IsPart vl lo)(pu:IsPart vu hi)(h:Q (((sIx n 0 lo:Nat):Int),1,sIx n n hi-sIx n 0 lo) s):wpAny 'r' A (Builtin.Slice.sliceApplied (.ref sl) (pure (n:Int))) Q E s:=by
 obtain⟨os,hos,hcs,hds⟩:=id hs;unfold Builtin.Slice.sliceApplied Builtin.Slice.sliceFields;refine Aa1 (Aa1 (Ae1 hos hds (x:=vl) rfl (Aa1 (Ae1 hos hds (x:=vu) rfl (Aa1 (Ae1 hos hds (x:=.none) rfl (Ac1 ?_)))))));refine Aa1 (slicePart_none ?_);show wpAny _ _ (if ((1:Int) == 0)=true then _ else _) _ _ s;rw[if_neg 'z'];refine Aa1 (yi2 pl (Aa1 (yi2 pu (Aa1 (Ac1 ?_)))));show wpAny _ _ (match Builtin.Slice.sliceAdjust lo hi 1 (n:Int) with | (lo,hi)=>pure (lo,(1:Int),Builtin.Slice.slicePlaces lo hi 1)) _ _ s;rw[xm2 lo hi n];show wpAny _ _ (pure (((sIx n 0 lo:Nat):Int),(1:Int),Builtin.Slice.slicePlaces ((sIx n 0 lo:Nat):Int) ((sIx n n hi:Nat):Int) 1)) _ _ s;rw[xk5];exact Ac1 h
open H in
def wc7(xs:Array Value)(i k:Nat):((List.range k).filterMap λ(m:Nat)=>xs[((i:Int)+(m:Int)*1).toNat]?).toArray=((xs.toList.drop i).take k).toArray:=by
 have e:(λ(m:Nat)=>xs[((i:Int)+(m:Int)*1).toNat]?)=λm=>xs[i+m]?:=by
  funext m;have:((i:Int)+(m:Int)*1).toNat=i+m:=by omega
  rw[this]
 rw[e];have:=pick_run xs i k;rw[List.filterMap_map] at this;have e2:((λx=>xs[x]?) ∘ λx=>i+x)=λm=>xs[i+m]?:=rfl
 rw[e2] at this;rw[this]
def getItem_tuple_cut{t sl:Addr}{items:Array Value}{vl vu:Value}{lo hi:Option Int}{Q:Value->Shared->Prop}(ht:IsTup s.heap t items)(hs:s.heap.IsSliceOf sl vl vu .none)(pl:IsPart vl lo)(pu:IsPart vu hi)(hw:¬(sIx items.size 0 lo=0/\sIx items.size items.size hi=items.size))(h:Q (.ref s.heap.objs.size) { s with heap:=s.heap.push { cls:=.type "tuple",data:=.seq ((items.toList.drop (sIx items.size 0 lo)).take (sIx items.size items.size hi-sIx items.size 0 lo)).toArray } })(hsz:items.size<=sizeLine):wpAny 'r' A (getItem (.ref t) (.ref sl)) Q E s:=by
 have htake:sizeOk (.seq ((items.toList.drop (sIx items.size 0 lo)).take (sIx items.size items.size hi-sIx items.size 0 lo)).toArray):=by
  show ((items.toList.drop (sIx items.size 0 lo)).take (sIx items.size items.size hi-sIx items.size 0 lo)).toArray.size<=sizeLine;rw[Ai0,Be0,List.length_drop,Aw0];omega
 have hj:sIx items.size items.size hi<=items.size:=wu7 _ _ (Ae0 _) hi;obtain⟨os,hos,hcs,hds⟩:=id hs;have hTs:s.TypeIs (.ref sl) "slice":=⟨os,hos,hcs⟩;unfold getItem;try with_reducible refine wpAny_holding ?_
 first | refine Aa1 (Ac1 ?_) | skip
 refine Aa1 (wpAny_sequenceKey ht.typeIs 'z' ?_);refine Aa1 (wpAny_callSpecial?_slot (name:=Str.ofString "__getitem__") ht.typeIs PyProof.Rows.slot_tuple_getitem (Ak1 PyProof.Rows.slot_tuple_getitem ht.typeIs entry_tuple_getitem ?_ (args_tuple_getitem _ _)));show wpAny _ _ (Builtin.Tuple.tupleItemsOf (.ref t) >>= _) _ _ s;refine Aa1 (tupleItemsOf_ ht ?_);refine Aa1 (wpAny_typeOf hTs ?_);rw[if_pos 'z'];refine Aa1 (ya4 hs pl pu ?_);have hno:¬((((sIx items.size 0 lo:Nat):Int) == 0&&(1:Int) == 1&&(sIx items.size items.size hi-sIx items.size 0 lo) == items.size)=true):=by
  intro q;rw[Bool.and_eq_true,Bool.and_eq_true] at q;have q1:((sIx items.size 0 lo:Nat):Int)=0:=eq_of_beq q.1.1;have q2:sIx items.size items.size hi-sIx items.size 0 lo=items.size:=eq_of_beq q.2;exact hw {'o','o'}
 show wpAny _ _ (if (((sIx items.size 0 lo:Nat):Int) == 0&&(1:Int) == 1&&(sIx items.size items.size hi-sIx items.size 0 lo) == items.size)=true then _ else _) _ _ s;rw[if_neg hno,wc7];first
  | exact Aa1 (m:=Builtin.Tuple.tupleExact _) (wpAny_newObj_type (Ac1 {_,rfl,Ac1 h}) htake)
  | exact Aa1 (m:=Builtin.Tuple.tupleExact _) (wpAny_newObj_type (Aa1 (Ac1 (Ac1 {_,rfl,Ac1 h}))) htake)
  | exact Aa1 (Aa1 (m:=Builtin.Tuple.tupleExact _) (wpAny_newObj_type (Ac1 (Ac1 {_,rfl,Ac1 h})) htake))
  | exact Aa1 (Aa1 (m:=Builtin.Tuple.tupleExact _) (wpAny_newObj_type (Ac1 {_,rfl,Ac1 h}) htake))
end HT
namespace L2
noncomputable abbrev TO:=St->Hp->(Option Int->Hp->Prop)->Prop
instance PO(X:Cx)(e:Option Expr)(t:TO):Prop:=
 ∀(A3:List 'p') (s:Shared) (Y:St) (H:Hp) (Q:Option Int->Hp->Prop),Inv X A3 Y H s->t Y H Q->
  wpAny 'e' X.A (evalPart e X.env) (λu s'=>∃o H',Inv X A3 Y H' s'/\IsPart u o/\Q o H') X.xe s
instance wm4:TO:=λ_ H Q=>Q none H
instance uc9(t:TE):TO:=λY H Q=>t Y H λx H1=>∃i,x=.int i/\Q (some i) H1
theorem xl7{ns:List Int}:∀{us:List Value},vc8 (ns.map V.int) us->IntsAre us ns:=by
 induction ns with
 | nil=>intro us r;rw[List.map_nil] at r;cases r;exact .nil
 | cons n ns ih=>
   intro us r;rw[Au0] at r;cases r with
   | cons r1 r2=>
     obtain⟨t,e⟩:=r1;subst e;exact .cons n t (ih r2)
section
variable{X:Cx}{e:Expr}{te:TE}{lo hi:Option Expr}{tl th:TO}{pos p2:Pos}
def xq5:PO X none wm4:=by
 intro A3 s Y H Q I h;rw[evalPart_none];exact Ac1 {none,H,I,.none,h}
def xq4(h:PE X e te):PO X (some e) (uc9 te):=by
 intro A3 s Y H Q I hw;rw[evalPart_some];refine thn (h A3 s Y H _ I hw) λu s1 hI86=>?_
 obtain⟨x,H1,I1,r1,q1⟩:=hI86;obtain⟨i,rfl,q⟩:=q1;obtain⟨t,rfl⟩:=r1;exact{some i,H1,I1,.int i t,q}
instance SlR(X:Cx)(r:V->Option Int->Option Int->Hp->VK->Prop):Prop:=
 ∀(A3:List 'p') (s:Shared) (Y:St) (H:Hp) (x:V) (v vl vu:Value) (lo hi:Option Int) (sl:Addr) (Q:VK),Inv X A3 Y H s->vc7 x v->s.heap.IsSliceOf sl vl vu .none->IsPart vl lo->IsPart vu hi->r x lo hi H Q->
  ∃T id,typeLookup (.type T) "__getitem__" = pure (some (.builtin id))/\s.TypeIs v T/\wpAny 'e' X.A (getItem v (.ref sl)) (EP X A3 Y Q) X.xe s
def SlR.or(h:SlR X r)(h':SlR X r'):SlR X (λx lo hi H Q=>r x lo hi H Q\/r' x lo hi H Q):=by
 intro A3 s Y H x v vl vu lo hi sl Q I rx hs pl pu q;rcases q with q | q
 ·exact h A3 s Y H x v vl vu lo hi sl Q I rx hs pl pu q
 ·exact h' A3 s Y H x v vl vu lo hi sl Q I rx hs pl pu q
instance tSl(r:V->Option Int->Option Int->Hp->VK->Prop)(te:TE)(tl th:TO):TE:=λY H Q=>te Y H λx H1=>tl Y H1 λl H2=>th Y H2 λu H3=>r x l u H3 Q
def xd5(hr:SlR X r)(he:PE X e te)(hl:PO X lo tl)(hu:PO X hi th):PE X (.Subscript e (.Slice lo hi none p2) pos) (tSl r te tl th):=by
 intro A3 s Y H Q I h;refine Subscript_ (thn (he A3 s Y H _ I h) λv s1 hI87=>?_);obtain⟨x,H1,I1,r1,q1⟩:=hI87;refine wpAny_Slice (thn (hl A3 s1 Y H1 _ I1 q1) λvl s2 ⟨l,H2,I2,pl,q2⟩=>thn (hu A3 s2 Y H2 _ I2 q2) λvu s3 hI88=>?_);obtain⟨u,H3,I3,pu,q3⟩:=hI88;rw[evalPart_none];refine Ac1 ?_;have I4:Inv X A3 Y H3 { s3 with heap:=s3.heap.push { cls:=.type "slice",data:=.fields #[vl,vu,.none] } }:=I3.kept (t':=s3.toks) λb ob q=>Ab0 _ q
 obtain⟨T,id,hT,ht,hg⟩:=hr A3 { s3 with heap:=s3.heap.push { cls:=.type "slice",data:=.fields #[vl,vu,.none] } } Y H3 x v vl vu l u s3.heap.objs.size Q I4 r1 (Heap.IsSliceOf.new ..) pl pu q3;show wpAny 'e' X.A (subscriptTail e (.Slice lo hi none p2) v (.ref s3.heap.objs.size)) (EP X A3 Y Q) X.xe { s3 with heap:=s3.heap.push { cls:=.type "slice",data:=.fields #[vl,vu,.none] } };exact tail_any (ops:=[.ref s3.heap.objs.size,v]) ht hT hg (by with_unfolding_all rfl)
instance vp9(xs:List V)(lo hi:Option Int):List V:=(xs.drop (HT.sIx xs.length 0 lo)).take (HT.sIx xs.length xs.length hi-HT.sIx xs.length 0 lo)
def yg4(xs:List V)(lo hi:Option Int):(vp9 xs lo hi).length<=xs.length:=by
 unfold vp9;rw[Be0,List.length_drop];omega
instance um6(K:PySem.W.Frag):V->Option Int->Option Int->Hp->VK->Prop:=λx lo hi H Q=>∃a xs,x=.ref a/\SqT K H a xs/\
 ¬(HT.sIx xs.length 0 lo=0/\HT.sIx xs.length xs.length hi=xs.length)/\∀p,H p=none->Q (.ref p) (upd H p (.tup (vp9 xs lo hi)))
def wu6:SlR X (um6 X.K):=by
 intro A3 s Y H x v vl vu lo hi sl Q I rx hs pl pu h;obtain⟨a,xs,rfl,hx,hw,q⟩:=h;cases rx;obtain⟨its,r,ht,hz⟩:=I.tuple hx;have hlen:its.toArray.size=xs.length:=by rw[Ai0];exact r.length.symm
 refine{"tuple",_,PyProof.Rows.slot_tuple_getitem.lookup,ht.typeIs,?_};refine HT.getItem_tuple_cut ht hs pl pu (by rw[hlen];exact hw) ?_ (by rw[hlen];exact hz);rw[hlen];refine{.ref s.heap.objs.size,_,I.laid (t':=s.toks) (o:=.tup (vp9 xs lo hi)) (λb ob q=>Ab0 _ q) (Ae0 _) ?_,rfl,q _ (I.hok.fresh (Ae0 _))};exact{Ap0 (yg4 xs lo hi) hz,_,(r.drop (HT.sIx xs.length 0 lo)).take (HT.sIx xs.length xs.length hi-HT.sIx xs.length 0 lo),IsTup.new _ _,{_,Ag0 _ rfl,rfl}}
instance vq7(K:PySem.W.Frag):R2:=λx y H Q=>∃a b xs ys,x=.ref a/\y=.ref b/\SqT K H a xs/\SqT K H b ys/\xs≠[]/\xs.length+ys.length<=sizeLine/\
 (ys=[]->Q (.ref a) H)/\(ys≠[]->∀p,H p=none->Q (.ref p) (upd H p (.tup (xs++ys))))
theorem vc8.nil_iff(r:vc8 xs us):us=[]↔xs=[]:=by
 cases r with
 | nil=>simp
 | cons _ _=>simp
def wo4:OpR X (binaryOp .Add) (vq7 X.K):=by
 intro A3 s Y H x y v u Q I rx ry h;obtain⟨a,b,xs,ys,rfl,rfl,ha,hb,hx,hz,q1,q2⟩:=h;cases rx;cases ry;obtain⟨its,r1,p1,_⟩:=I.tuple ha;obtain⟨its2,r2,p2,_⟩:=I.tuple hb;refine HT.cat_tup p1 p2 (λz=>hx (r1.nil_iff.mp z)) (λz=>{.ref a,H,I,rfl,q1 (r2.nil_iff.mp z)}) (λz=>?_) (by rw[<-r1.length,<-r2.length];exact hz);refine{.ref s.heap.objs.size,_,I.laid (t':=s.toks) (o:=.tup (xs++ys)) (λb ob q=>Ab0 _ q) (Ae0 _) ?_,rfl,q2 (λw=>z (r2.nil_iff.mpr w)) _ (I.hok.fresh (Ae0 _))};exact{by rw[Ak0];exact hz,_,r1.append r2,IsTup.new _ _,{_,Ag0 _ rfl,rfl}}
end
instance ixN(n:Nat)(i:Int):Option Nat:=if 0<=i then (if i<n then some i.toNat else none) else if -(n:Int)<=i then some (i+n).toNat else none
instance atI{α:Type}(xs:List α)(i:Int):Option α:=(ixN xs.length i).bind λj=>xs[j]?
def xw0{n:Nat}{i:Int}{j:Nat}(h:ixN n i=some j):seqIndex? i n=some j/\j<n/\-(n:Int)<=i/\i<n:=by
 unfold ixN at h;by_cases h0:0<=i
 ·rw[if_pos h0] at h
  by_cases h1:i<n
  ·rw[if_pos h1] at h
   have e:i.toNat=j:=Option.some.inj h;exact{by rw[seqIndex_of h0 h1,e],'o','o',h1}
  ·rw[if_neg h1] at h;cases h
 ·rw[if_neg h0] at h
  by_cases h1:-(n:Int)<=i
  ·rw[if_pos h1] at h
   have e:(i+n).toNat=j:=Option.some.inj h;exact{by rw[seqIndex_neg 'o' h1,e],'o',h1,'o'}
  ·rw[if_neg h1] at h;cases h
theorem xa9{α:Type}{xs:List α}{i:Int}{v:α}(h:atI xs i=some v):∃j,seqIndex? i xs.length=some j/\xs[j]?=some v/\j<xs.length/\-(xs.length:Int)<=i/\i<xs.length:=by
 unfold atI at h;cases e:ixN xs.length i with
 | none=>rw[e] at h;cases h
 | some j=>
   rw[e] at h;obtain⟨h1,h2,h3,h4⟩:=xw0 e;exact⟨j,h1,h,h2,h3,h4⟩
def xa8{α:Type}{xs:List α}{j:Nat}{v:α}(h:xs[j]?=some v):atI xs (j:Int)=some v:=by
 have hj:j<xs.length:=(Ac0.mp h).1;have e:ixN xs.length (j:Int)=some j:=by
  unfold ixN;rw[if_pos 'o',if_pos 'o'];simp
 unfold atI;rw[e];exact h
instance yh2(b:Expr):Prop:=∀o i,subscripted b false o i=operate [o,i] (getItem o i)
instance IxR(X:Cx)(r:R2):Prop:=
 ∀(value slice:Expr) (A3:List 'p') (s:Shared) (Y:St) (H:Hp) (x y:V) (v u:Value) (Q:VK),Inv X A3 Y H s->vc7 x v->vc7 y u->r x y H Q->
  subscripted slice false v u=operate [v,u] (getItem v u)->wpAny 'e' X.A (subscriptTail value slice v u) (EP X A3 Y Q) X.xe s
instance MtR(X:Cx)(id:String)(r:V->List V->Hp->VK->Prop):Prop:=
 ∀(A3:List 'p') (s:Shared) (Y:St) (H:Hp) (x:V) (xs:List V) (v:Value) (us:List Value) (Q:VK),Inv X A3 Y H s->vc7 x v->vc8 xs us->r x xs H Q->
  wpAny 'e' X.A (call (.builtin id) (v::us)) (EP X A3 Y Q) X.xe s
section
variable{X:Cx}{a b:Expr}{ta tb:TE}{pos:Pos}
def IxR.or(h:IxR X r)(h':IxR X r'):IxR X (λx y H Q=>r x y H Q\/r' x y H Q):=by
 intro value slice A3 s Y H x y v u Q I rx ry q hs;rcases q with q | q
 ·exact h value slice A3 s Y H x y v u Q I rx ry q hs
 ·exact h' value slice A3 s Y H x y v u Q I rx ry q hs
def vt7(hr:IxR X r)(ha:PE X a ta)(hb:PE X b tb)(hs:yh2 b):PE X (.Subscript a b pos) (tOp r ta tb):=by
 intro A3 s Y H Q I h;exact Subscript_ (ui2 ha hb I h λv u s2 x y H2 I2 rx ry q=>hr a b A3 s2 Y H2 x y v u Q I2 rx ry q (hs _ _))
instance uj5(K:PySem.W.Frag):R2:=λx y H Q=>∃p xs i v,x=.ref p/\y=.int i/\SqL K H p xs/\atI xs i=some v/\Q v H
instance uj3(K:PySem.W.Frag):R2:=λx y H Q=>∃p xs i v,x=.ref p/\y=.int i/\SqT K H p xs/\atI xs i=some v/\Q v H
instance uj4:R2:=λx y H Q=>∃z i c,x=.str z/\y=.int i/\z.length<=sizeLine/\atI z.cps.toList i=some c/\Q (.str ⟨#[c]⟩) H
def xv8:IxR X (uj5 X.K):=by
 intro value slice A3 s Y H x y v u Q I rx ry h hs;obtain⟨p,xs,i,z,rfl,rfl,hq,he,q⟩:=h;cases rx;obtain⟨t,rfl⟩:=ry;obtain⟨its,r,pl,hz⟩:=I.list hq;obtain⟨j,h1,h2,h3,h4,h5⟩:=xa9 he;obtain⟨w,ew,rw'⟩:=r.get h2;have hl:=r.length;have hn:=yt3;have fin:EP X A3 Y Q w s:=⟨z,H,I,rw',q⟩;by_cases h0:0<=i
 ·have hj:i.toNat=j:=by
   rw[seqIndex_of h0 h5] at h1;exact Option.some.inj h1
  exact item_listR pl.isList h0 'o' (by rw[hj];simpa using ew) fin hs
 ·have hj:(i+(its.toArray.size:Int)).toNat=j:=by
   rw[seqIndex_neg 'o' h4] at h1;rw[Ai0,<-hl];exact Option.some.inj h1
  exact subscriptTail_builtinR (x:=w) pl.isList.typeIs slot_list_getitem.lookup
   (wpAny_getItem_list_neg (Q:=λr s'=>r=w/\EP X A3 Y Q r s') pl.isList 'o' (by rw[Ai0]<;>omega) 'o' (by rw[hj];simpa using ew) ⟨rfl,fin⟩) hs
def wj0:IxR X (uj3 X.K):=by
 intro value slice A3 s Y H x y v u Q I rx ry h hs;obtain⟨p,xs,i,z,rfl,rfl,hq,he,q⟩:=h;cases rx;obtain⟨t,rfl⟩:=ry;obtain⟨its,r,pl,hz⟩:=I.tuple hq;obtain⟨j,h1,h2,h3,h4,h5⟩:=xa9 he;obtain⟨w,ew,rw'⟩:=r.get h2;have hl:=r.length;have hn:=yt3;have fin:EP X A3 Y Q w s:=⟨z,H,I,rw',q⟩;exact subscriptTail_builtinR (x:=w) pl.typeIs slot_tuple_getitem.lookup
  (getItem_tuple (j:=j) (Q:=λr s'=>r=w/\EP X A3 Y Q r s') pl 'o' 'o' (by rw[Ai0,<-hl];exact h1) (by simpa using ew) ⟨rfl,fin⟩) hs
def wy6:IxR X uj4:=by
 intro value slice A3 s Y H x y v u Q I rx ry h hs;obtain⟨z,i,c,rfl,rfl,hz,he,q⟩:=h;obtain⟨t,rfl⟩:=rx;obtain⟨t',rfl⟩:=ry;obtain⟨j,h1,h2,h3,h4,h5⟩:=xa9 he;have hl:z.cps.toList.length=z.length:=by simp[Str.length]
 rw[hl] at h1 h4 h5;have hn:=yt3;exact tail_any (typeIs_str s z t) slot_str_getitem.lookup (getItem_str (c:=c) (by
  have e1:decide (i < -(2 ^ 63:Int))=false:=Ao1 'o';have e2:decide (i>=2 ^ 63)=false:=Ao1 'o';rw[e1,e2,Bool.or_false]) (by rw[h1];simpa using h2) {.str ⟨#[c]⟩,H,I.tok _,{_,rfl},q}) hs
instance rIx(K:PySem.W.Frag):R2:=λx y H Q=>uj5 K x y H Q\/uj3 K x y H Q\/uj4 x y H Q
def xv7:IxR X (rIx X.K):=xv8.or (wj0.or wy6)
def xl1(its:List Value)(n j:Nat)(u:Value):Obj.mapSeq (·.setIfInBounds j u) { cls:=.type "list",data:=.seq its.toArray n }={ cls:=.type "list",data:=.seq (its.set j u).toArray n }:=by
 simp[Obj.mapSeq]
def Inv.lst{A3:List 'p'}{Y:St}{H:Hp}{s:Shared}{p:Addr}{xs:List V}(I:Inv X A3 Y H s)(h:H p=some (.lst xs)) :
 ∃(its:List Value) (n:Nat),vc8 xs its/\s.heap.get? p=some { cls:=.type "list",data:=.seq its.toArray n }/\xs.length<=sizeLine:=by
 obtain⟨z,its,n,r,e⟩:=I.hok p _ h;exact⟨its,n,r,e,z⟩
def Inv.lstUpd{A3:List 'p'}{Y:St}{H:Hp}{s:Shared}{p:Addr}{xs ys:List V}{its its':List Value}{n n':Nat}{f:Obj->Obj}(I:Inv X A3 Y H s)(h:H p=some (.lst xs))(ho:s.heap.get? p=some { cls:=.type "list",data:=.seq its.toArray n })(hf:f { cls:=.type "list",data:=.seq its.toArray n }={ cls:=.type "list",data:=.seq its'.toArray n' })(r:vc8 ys its')(hz:ys.length<=sizeLine)(t:Nat) :
 Inv X A3 Y (upd H p (.lst ys)) { s with heap:=s.heap.update p f,toks:=t }:=by
 have e:(s.heap.update p f).get? p=some { cls:=.type "list",data:=.seq its'.toArray n' }:=by
  rw[Heap.get?_update_self f ho (by rw[hf]<;>rfl),hf]
 refine I.write (x:=p) (e:=p) (by rw[h];trivial) (.inl rfl) (λb u hb q=>(Heap.get?_update_other _ _ (Ne.symm hb)).trans q) {_,e} ?_;exact⟨hz,its',n',r,e⟩
instance vy8:V->V->V->Hp->(Hp->Prop)->Prop:=λo i v H Q=>∃p xs k j,o=.ref p/\i=.int k/\H p=some (.lst xs)/\ixN xs.length k=some j/\Q (upd H p (.lst (xs.set j v)))
def xc6:ul2 X vy8:=by
 intro A3 s Y H o i v ov iv u Q I ro ri rv h;obtain⟨p,xs,k,j,rfl,rfl,hp,hj,q⟩:=h;cases ro;obtain⟨t,rfl⟩:=ri;obtain⟨its,n,r,ho,hz⟩:=I.lst hp;obtain⟨h1,h2,h3,h4⟩:=xw0 hj;have hl:=r.length;have hn:=yt3;have I':Inv X A3 Y (upd H p (.lst (xs.set j v))) { s with heap:=s.heap.update p (Obj.mapSeq (·.setIfInBounds j u)) }:=
  I.lstUpd hp ho (xl1 its n j u) (r.set rv j) (by rw[Bx0];exact hz) s.toks
 by_cases h0:0<=k
 ·have hk:k.toNat=j:=by
   rw[seqIndex_of h0 h4] at h1;exact Option.some.inj h1
  exact PySem.W.ki_setAt ho h0 'o' (by rw[Ai0,<-hl];exact h4) (by rw[hk];exact{_,I',q})
 ·have hk:(k+(its.toArray.size:Int)).toNat=j:=by
   rw[seqIndex_neg 'o' h3] at h1;rw[Ai0,<-hl];exact Option.some.inj h1
  exact PySem.W.ki_setBack ho 'o' (by rw[Ai0,<-hl];exact h3) 'o' (by rw[hk];exact{_,I',q})
def yr4(lo hi:Option Int)(n:Nat):(sliceBounds lo hi none n).1=((HT.sIx n 0 lo:Nat):Int)/\(sliceBounds lo hi none n).2.1=((HT.sIx n n hi:Nat):Int)/\(sliceBounds lo hi none n).2.2=1:=by
 refine{?_,?_,rfl}
 ·cases lo with
  | none=>simp[sliceBounds,HT.sIx]
  | some i=>
    simp only[sliceBounds,HT.sIx,Option.getD_none,show (1:Int)>0 by decide,if_true];by_cases h:i<0
    ·simp only[h,if_true]<;>omega
    ·simp only[h,if_false]<;>omega
 ·cases hi with
  | none=>simp[sliceBounds,HT.sIx]
  | some i=>
    simp only[sliceBounds,HT.sIx,Option.getD_none,show (1:Int)>0 by decide,if_true];by_cases h:i<0
    ·simp only[h,if_true]<;>omega
    ·simp only[h,if_false]<;>omega
def yl9(its:List Value)(lo hi:Option Int):slicePick its.toArray lo hi none=((its.drop (HT.sIx its.length 0 lo)).take (HT.sIx its.length its.length hi-HT.sIx its.length 0 lo)).toArray:=by
 obtain⟨h1,h2,h3⟩:=yr4 lo hi its.toArray.size;unfold slicePick;rw[h1,h2,h3];simp only[sliceRange_one,pick_run,Ai0]<;>rfl
instance um7(K:PySem.W.Frag):V->Option Int->Option Int->Hp->VK->Prop:=λx lo hi H Q=>∃a xs,x=.ref a/\SqL K H a xs/\∀p,H p=none->Q (.ref p) (upd H p (.lst (vp9 xs lo hi)))
def xo4:SlR X (um7 X.K):=by
 intro A3 s Y H x v vl vu lo hi sl Q I rx hs pl pu h;obtain⟨a,xs,rfl,hx,q⟩:=h;cases rx;obtain⟨its,r,ht,hz⟩:=I.list hx;have hlen:=r.length;refine{"list",_,slot_list_getitem.lookup,ht.isList.typeIs,?_};refine wpAny_getItem_list_slice ht.isList hs pl pu .none 'd' ?_ (by rw[Ai0]<;>omega);rw[yl9,<-hlen];refine{.ref s.heap.objs.size,_,I.laid (t':=s.toks) (o:=.lst (vp9 xs lo hi)) (λb ob q=>Ab0 _ q) (Ae0 _) ?_,rfl,q _ (I.hok.fresh (Ae0 _))};exact{Ap0 (yg4 xs lo hi) hz,_,0,(r.drop (HT.sIx xs.length 0 lo)).take (HT.sIx xs.length xs.length hi-HT.sIx xs.length 0 lo),Ag0 _ rfl}
def zd4:vf3 X (.builtin "len") (λxs H Q=>∃p ys,xs=[.ref p]/\(SqL X.K H p ys\/SqT X.K H p ys)/\Q (.int ys.length) H):=by
 intro A3 s Y H xs us Q I r h;obtain⟨p,ys,rfl,hq,q⟩:=h;obtain⟨u,rfl,rx⟩:=vh6 r;cases rx;have hn:=yt3;rcases hq with hq | hq
 ·obtain⟨its,r',pl,hz⟩:=I.list hq
  have hlen:=r'.length;exact Calls.call_len_list pl.isList (by simp only[Ai0]<;>omega) {.int ys.length,H,I.tok _,{s.toks+1,by rw[Ai0,hlen]},q}
 ·obtain⟨its,r',pl,hz⟩:=I.tuple hq
  have hlen:=r'.length;exact len_tuple pl (by simp only[Ai0]<;>omega) {.int ys.length,H,I.tok _,{s.toks+1,by rw[Ai0,hlen]},q}
def ya3:vf3 X (.type "list") (λxs H Q=>∃p ys,xs=[.ref p]/\(SqL X.K H p ys\/SqT X.K H p ys)/\∀l,H l=none->Q (.ref l) (upd H l (.lst ys))):=by
 intro A3 s Y H xs us Q I r h;obtain⟨p,ys,rfl,hq,q⟩:=h;obtain⟨u,rfl,rx⟩:=vh6 r;cases rx;have fin:∀(its:List Value),vc8 ys its->ys.length<=sizeLine->∀(h':Heap) (c':Nat),(∀b o',s.heap.get? b=some o'->h'.get? b=some o')->
  h'.get? s.heap.objs.size=some { cls:=.type "list",dict:=none,data:=.seq its.toArray c',slots:=#[] }->EP X A3 Y Q (.ref s.heap.objs.size) { s with heap:=h' }:=λits r' hz h' c' kp e=>
  {.ref s.heap.objs.size,_,I.laid (t':=s.toks) kp (Ae0 _) (show vd4 X.prog X.w _ h' _ (.lst ys) from⟨hz,its,c',r',e⟩),rfl,q _ (I.hok.fresh (Ae0 _))}
 rcases hq with hq | hq
 ·obtain⟨its,r',pl,hz⟩:=I.list hq
  have hlen:=r'.length;obtain⟨o,ho,hc,n,hd⟩:=pl.isList;exact call_list_seq p (.inl rfl) ho hc hd (λh' c' kp e=>fin its r' hz h' c' kp e) (by simp only[Ai0]<;>omega)
 ·obtain⟨its,r',pl,hz⟩:=I.tuple hq
  have hlen:=r'.length;obtain⟨o,ho,hc,n,hd⟩:=pl;exact call_list_seq p (.inr rfl) ho hc hd (λh' c' kp e=>fin its r' hz h' c' kp e) (by simp only[Ai0]<;>omega)
def zg2:vf3 X (.type "tuple") (λxs H Q=>∃p ys,xs=[.ref p]/\((SqL X.K H p ys/\∀l,H l=none->Q (.ref l) (upd H l (.tup ys)))\/(SqT X.K H p ys/\Q (.ref p) H))):=by
 intro A3 s Y H xs us Q I r h;obtain⟨p,ys,rfl,h⟩:=h;obtain⟨u,rfl,rx⟩:=vh6 r;cases rx;rcases h with⟨hq,q⟩ | ⟨hq,q⟩
 ·obtain⟨its,r',pl,hz⟩:=I.list hq
  have hlen:=r'.length;refine call_tuple_list pl.isList (λh' kp=>?_) (by simp only[Ai0]<;>omega);have I1:Inv X A3 Y H { s with heap:=h' }:=I.kept (t':=s.toks) kp;have I2:Inv X A3 Y (upd H h'.objs.size (.tup ys)) { s with heap:=h'.push { cls:=.type "tuple",data:=.seq its.toArray } }:=
   I1.laid (t':=s.toks) (λb o e=>Ab0 _ e) (Ae0 _) (show vd4 X.prog X.w _ _ _ (.tup ys) from{hz,its,r',IsTup.new _ _,{_,Ag0 _ rfl,rfl}})
  exact{.ref h'.objs.size,_,I2,rfl,q _ (I1.hok.fresh (Ae0 _))}
 ·obtain⟨its,r',pl,hz⟩:=I.tuple hq
  exact call_tuple_same pl {.ref p,H,I,rfl,q}
instance tyV(K:PySem.W.Frag)(T:String)(x:V)(H:Hp):Prop:=match x with
 | .str _=>T = "str"
 | .int _=>T = "int"
 | .ref p=>(T = "list"/\∃xs,SqL K H p xs)\/(T = "tuple"/\∃o,K.lookup p=some o/\o.cls=.type "tuple"/\o.dict=none)\/
  (T = "dict"/\((∃kvs,H p=some (.dK kvs))\/∃kvs,H p=some (.dT kvs)))\/(T = "set"/\∃S n,H p=some (.set S n))
 | _=>False
theorem wu0{T:String}(I:Inv X A3 Y H s)(r:vc7 x v)(ty:tyV X.K T x H) :
 s.TypeIs v T/\∀a,v=.ref a->∃ob,s.heap.get? a=some ob/\ob.dict=none:=by
 cases x with
 | str z=>
   obtain⟨t,rfl⟩:=r;cases (show T = "str" from ty);exact{typeIs_str s z t,λ_ e=>nomatch e}
 | int i=>
   obtain⟨t,rfl⟩:=r;cases (show T = "int" from ty);exact{typeIs_int s i t,λ_ e=>nomatch e}
 | ref p=>
   cases r;rcases ty with⟨rfl,xs,hq⟩ | ⟨rfl,o,hk,hc,hd⟩ | ⟨rfl,hk⟩ | ⟨rfl,S,n,hk⟩
   ·obtain⟨its,_,pl,_⟩:=I.list hq
    refine{pl.isList.typeIs,λa e=>?_};cases e;obtain⟨o,n,e,c,hd,_⟩:=pl;exact⟨o,e,hd⟩
   ·refine{{o,I.kIn p o hk,hc},λa e=>?_}
    cases e;exact{o,I.kIn _ o hk,hd}
   ·have z:∃o,s.heap.get? p=some o/\o.ExactDict:=by
     rcases hk with⟨kvs,hk⟩ | ⟨kvs,hk⟩
     ·obtain⟨_,_,_,_,o,_,_,e,ex,_⟩:=I.hok p _ hk
      exact⟨o,e,ex⟩
     ·obtain⟨_,_,_,_,o,_,_,e,ex,_⟩:=I.hok p _ hk
      exact⟨o,e,ex⟩
    obtain⟨o,e,ex⟩:=z;refine{⟨o,e,ex.1⟩,λa e2=>?_};cases e2;exact⟨o,e,ex.2.1⟩
   ·obtain⟨o,_,_,_,e,ex,_⟩:=I.hok p _ hk
    refine{⟨o,e,ex.1⟩,λa e2=>?_};cases e2;exact⟨o,e,ex.2.1⟩
 | _=>exact False.elim ty
instance tBM(K:PySem.W.Frag)(T:String)(r:V->List V->Hp->VK->Prop)(to:TE)(t:TA):TE:=λY H Q=>to Y H λx H1=>tyV K T x H1/\t Y H1 λxs H2=>r x xs H2 Q
variable{name:Str}{T id:String}
def ue9(pa:PlainAttrs T)(slot:Slot T name id)(hty:typeOf (.builtin id)=pure (.type "method_descriptor"))(hm:MtR X id r)(ho:PE X o to)(ha:PA X (e::es) t)(hbase:autoParam (attributeBase o name X.env (eval o X.env)=eval o X.env) uR)(hfew:autoParam (((backTo cpos (starEach (e::es) X.env)).all (λx=>!x.1)&&(backToKw cpos (keywordEach [] X.env)).all (λx=>x.1.isSome)
  && decide ((e::es).length+([]:List Keyword).length+(if ([]:List Keyword).isEmpty then 0 else 1)<30))=true) uR)(hline:autoParam ((apos.endLine == cpos.line)=true) uR)(hs:autoParam (starEach (e::es) X.env=(false,eval e X.env)::starEach es X.env) uR)(hplain:autoParam ((backTo cpos (starEach es X.env)).any (·.1)=false) uR) :
 PE X (.Call (.Attribute o name apos) (e::es) [] cpos) (tBM X.K T r to t):=by
 intro A3 s Y H Q I h;refine wpAny_Call_method_late hbase hfew hline rfl (thn (ho A3 s Y H _ I h) λv s1 hI89=>?_);obtain⟨x,H1,I1,r1,ty,q1⟩:=hI89;obtain⟨h1,h2⟩:=wu0 I1 r1 ty;refine{T,id,pa,slot,hty,h1,h2,?_};have hA:=ha cpos A3 s1 Y H1 _ I1 q1;rw[hs] at hA ⊢;refine Calls.callWith_builtin (by show (false||(backTo cpos (starEach es X.env)).any (·.1))=false;rw[hplain]<;>rfl) (Calls.evalArgs_plain ?_);exact thn hA λus s2 ⟨vs,H2,I2,r2,q2⟩=>hm A3 s2 Y H2 x vs v us Q I2 r1 r2 q2
end
instance MtM(X:Cx)(id:String)(r:V->List V->Hp->VK->Prop):Prop:=
 ∀(A3:List 'p') (s:Shared) (Y:St) (H:Hp) (x:V) (xs:List V) (v:Value) (us:List Value) (Q:VK),Inv X A3 Y H s->vc7 x v->vc8 xs us->r x xs H Q->
  wpAny 'e' X.A (call (.builtin id) (v::us)) (EP X A3 Y Q) X.xe s
theorem vc8.unc{x:V}{xs:List V}{us:List Value}(h:vc8 (x::xs) us):∃u r,us=u::r/\vc7 x u/\vc8 xs r:=by
 cases h with
 | cons r t=>exact{_,_,rfl,r,t}
def vc8.unn{us:List Value}(h:vc8 [] us):us=[]:=by
 cases h;rfl
def vc8.one{x:V}{us:List Value}(h:vc8 [x] us):∃u,us=[u]/\vc7 x u:=by
 obtain⟨u,r,e,a,b⟩:=h.unc;rw[b.unn] at e;exact⟨u,e,a⟩
theorem vc8.zero:∀{us:List Value},vc8 [] us->us=[]
 | _,.nil=>rfl
theorem vc8.rep(h:vc8 xs us):∀k:Nat,vc8 (List.replicate k xs).flatten (List.replicate k us).flatten
 | 0=>.nil
 | k+1=>by
   rw[Cb0,Cb0,Cj0,Cj0];exact vc8.append h (vc8.rep h k)
theorem yv0(its:List Value):∀(k:Nat) (acc:List Value),
 List.foldl (λx1 x2=>x1++x2) acc.toArray (List.replicate k its.toArray)=(acc++(List.replicate k its).flatten).toArray
 | 0,acc=>by simp
 | k+1,acc=>by
   have e:acc.toArray++its.toArray=(acc++its).toArray:=by simp
   have e2:(acc++its)++(List.replicate k its).flatten=acc++(List.replicate (k+1) its).flatten:=by
    rw[Cb0,Cj0,Ao0]
   rw[<-e2,<-yv0 its k (acc++its),<-e,Cb0,List.foldl_cons]
def Inv.lset{its its':List Value}{n:Nat}{f:Array Value->Array Value}{t':Nat}(I:Inv X A3 Y H s)(hH:H l=some (.lst xs))(e:s.heap.get? l=some { cls:=.type "list",data:=.seq its.toArray n })(hf:f its.toArray=its'.toArray)(hv:vc8 ys its')(hz:ys.length<=sizeLine) :
 Inv X A3 Y (upd H l (.lst ys)) { s with heap:=s.heap.update l (Obj.mapSeq f),toks:=t' }:=by
 have q:=PySem.IsL.update e f;rw[hf] at q;refine I.write (x:=l) (e:=l) (by rw[hH];exact trivial) (.inl rfl) (λb' u hb hu=>(Heap.get?_update_other s.heap (Obj.mapSeq f) (Ne.symm hb)).trans hu) {_,q} ?_;exact{hz,its',_,hv,q}
def Inv.lnew{t':Nat}(I:Inv X A3 Y H s)(hv:vc8 ys its)(hz:ys.length<=sizeLine) :
 Inv X A3 Y (upd H s.heap.objs.size (.lst ys)) { s with heap:=s.heap.push { cls:=.type "list",data:=.seq its.toArray },toks:=t' }:=
 I.laid (λ_ _ q=>Ab0 _ q) (Ae0 _) {hz,its,0,hv,Ag0 _ rfl}
def Inv.fresh(I:Inv X A3 Y H s):H s.heap.objs.size=none:=I.hok.fresh (Ae0 _)
def Inv.lstM(I:Inv X A3 Y H s)(hH:H l=some (.lst xs)):xs.length<=sizeLine/\∃(its:List Value) (n:Nat),vc8 xs its/\xs.length=its.length/\s.heap.get? l=some { cls:=.type "list",data:=.seq its.toArray n }:=by
 obtain⟨z,its,n,r,e⟩:=I.hok l _ hH;exact⟨z,its,n,r,r.length,e⟩
def xe2{n:Nat}(h:n<=sizeLine):Builtin.List.listTooLong n=false:=by
 unfold Builtin.List.listTooLong;exact Ao1 'o'
instance xp5:V->List V->Hp->VK->Prop:=λx vs H Q=>∃l xs y,x=.ref l/\vs=[y]/\H l=some (.lst xs)/\xs.length<sizeLine/\Q .non (upd H l (.lst (xs++[y])))
def zk3:MtM X "list.append" xp5:=by
 intro A3 s Y H x vs v us Q I rx rv h;obtain⟨l,xs,y,rfl,rfl,hH,hz,q⟩:=h;cases rx;obtain⟨u,rfl,ru⟩:=rv.one;obtain⟨z,its,n,r,hl,e⟩:=I.lstM hH;refine call_meets F.slot_list_append {_,e,rfl} F.entry_list_append (F.args_list_append_2 _ _) (PySem.list_append l its.toArray n u (by rw[Ai0];omega)) {e,?_};refine{.non,_,I.lset (its':=its++[u]) hH e 'd' (r.append (.cons ru .nil)) ?_,rfl,q};rw[Ak0,List.length_singleton];omega
instance xp4:V->List V->Hp->VK->Prop:=λx vs H Q=>∃l b xs zs,x=.ref l/\vs=[.ref b]/\H l=some (.lst xs)/\H b=some (.lst zs)/\xs.length+zs.length<=sizeLine/\Q .non (upd H l (.lst (xs++zs)))
def zr5:MtM X "list.extend" xp4:=by
 intro A3 s Y H x vs v us Q I rx rv h;obtain⟨l,b,xs,zs,rfl,rfl,hH,hB,hz,q⟩:=h;cases rx;obtain⟨u,rfl,ru⟩:=rv.one;cases ru;obtain⟨z,its,n,r,hl,e⟩:=I.lstM hH;obtain⟨z2,its2,n2,r2,hl2,e2⟩:=I.lstM hB;have hsz:its.toArray.size+its2.toArray.size<=sizeLine:=by rw[Ai0,Ai0];omega
 have hlong:¬(!its.toArray.isEmpty&&Builtin.List.listTooLong (its.toArray.size+its2.toArray.size))=true:=by
  rw[xe2 hsz,Bool.and_false];exact Aq0
 refine call_meets F.slot_list_extend {_,e,rfl} F.entry_list_extend (F.args_list_extend_2 _ _)
  (AutoSeq1.list_extend_list_list_0 l its.toArray n b its2.toArray n2 hlong (by rw[Ai0];omega) 'o') {e,e2,?_}
 refine{.non,_,I.lset (its':=its++its2) hH e 'd' (r.append r2) ?_,rfl,q};rw[Ak0];omega
instance ub2:R2:=λx y H Q=>∃l b xs zs,x=.ref l/\y=.ref b/\H l=some (.lst xs)/\H b=some (.lst zs)/\xs.length+zs.length<=sizeLine/\∀p,H p=none->Q (.ref p) (upd H p (.lst (xs++zs)))
def ww6:OpR X (binaryOp .Add) ub2:=by
 intro A3 s Y H x y v u Q I rx ry h;obtain⟨l,b,xs,zs,rfl,rfl,hH,hB,hz,q⟩:=h;cases rx;cases ry;obtain⟨z,its,n,r,hl,e⟩:=I.lstM hH;obtain⟨z2,its2,n2,r2,hl2,e2⟩:=I.lstM hB;refine PySem.P.add_list e e2 ?_ (by rw[Ai0,Ai0];omega);have ea:its.toArray++its2.toArray=(its++its2).toArray:=by simp
 rw[ea];exact{.ref _,_,I.lnew (t':=s.toks) (r.append r2) (by rw[Ak0];omega),rfl,q _ I.fresh}
instance ub1:R2:=λx y H Q=>∃l k xs,x=.ref l/\y=.int k/\H l=some (.lst xs)/\-(2 ^ 63)<=k/\k<2 ^ 63/\xs.length*k.toNat<=sizeLine/\
 ∀p,H p=none->Q (.ref p) (upd H p (.lst (List.replicate k.toNat xs).flatten))
theorem wp5{α:Type}(xs:List α)(k:Nat):(List.replicate k xs).flatten.length=k*xs.length:=by
 induction k with
 | zero=>simp
 | succ k ih=>rw[Cb0,Cj0,Ak0,ih,Nat.succ_mul,Nat.add_comm]
def ww3:OpR X (binaryOp .Mult) ub1:=by
 intro A3 s Y H x y v u Q I rx ry h;obtain⟨l,k,xs,rfl,rfl,hH,h1,h2,hz,q⟩:=h;cases rx;obtain⟨t,rfl⟩:=ry;obtain⟨z,its,n,r,hl,e⟩:=I.lstM hH;have hlen:its.toArray.size*k.toNat<=sizeLine:=by rw[Ai0,<-hl];exact hz
 have hcap:¬its.toArray.size*k.toNat>(2 ^ 63-1) / 8:=by
  have:(sizeLine:Nat)<=(2 ^ 63-1) / 8:=by decide
  omega
 have hfit:¬(!Builtin.List.listFitsIndex k)=true:=by
  rw[fitsIndex_both h1 h2];exact Aq0
 have hlong:¬Builtin.List.listTooLong (its.toArray.size*k.toNat)=true:=by
  rw[xe2 hlen];exact Aq0
 have hnew:List.foldl (λx1 x2=>x1++x2) #[] (List.replicate (if its.toArray.isEmpty=true then 0 else k.toNat) its.toArray)=(List.replicate k.toNat its).flatten.toArray:=by
  have f0:∀m:Nat,List.foldl (λx1 x2=>x1++x2) #[] (List.replicate m its.toArray)=(List.replicate m its).flatten.toArray:=λm=>by
   have:=yv0 its m [];rw[List.nil_append] at this;exact this
  rw[f0];cases its with
  | nil=>simp
  | cons a r'=>rw[if_neg 'd']
 refine wpAny_binaryOp_repeat_ref (T:="list") (U:="int") 'z' {_,e,rfl} (λs'=>typeIs_int s' k t) noFill_list_mul F.fills_int_mul F.slot_int_rmul repeat_list F.slot_int_index.lookup
  (call_meets F.slot_int_rmul (typeIs_int s k t) F.entry_int_rmul (F.args_int_rmul_2 _ _) (int___rmul___int_list k t l its.toArray n)
   {e,rfl,{_,e,rfl},call_meets F.slot_list_mul {_,e,rfl} F.entry_list_mul (F.args_list_mul_2 _ _) (AutoListH.list___mul___list_int_3 l its.toArray n k t hfit hcap hlong) {e,?_}})
 rw[hnew];exact{.ref _,_,I.lnew (t':=s.toks) (r.rep k.toNat) (by rw[wp5,Nat.mul_comm];exact hz),rfl,q _ I.fresh}
end L2
namespace Att
open PySem PySem.W PySem.Calls PyProof.Rows
theorem ye7:∀(ns:List Int) (vs:List Value),WellAll P h vs (ns.map WData.int)->IntsAre vs ns:=by
 intro ns;induction ns with
 | nil=>
   intro vs w;rw[List.map_nil] at w;cases w;exact .nil
 | cons n ns ih=>
   intro vs w;rw[Au0] at w;cases w with
   | cons a b=>
     cases a;exact .cons _ _ (ih _ b)
theorem xo6{l:OpenLaw}{n:Nat}(hn:l.most=some n){P:Params}{h:Heap}{args:List WData}{vals:List Value}(hpre:l.row.toRowW.claim.pre args=true)(hwl:WellAll P h vals args) :
 ∃a vs ns,vals=[Value.ref a]/\args=[WData.list (ns.map WData.int)]/\h.get? a=some { cls:=.type "list",data:=.seq vs.toArray }/\IntsAre vs ns/\ns.length<=n:=by
 have hsh:WShape.hasAll [] args [.list .int]=true:=(pre_splitW hpre).1;have hc:l.pre.holds [] { args:=args }=true:=(pre_splitW hpre).2;obtain⟨d,r,rfl,h1,h2⟩:=hasAllW_cons hsh;obtain rfl:=hasAllW_nil h2;obtain⟨xs,rfl,h3⟩:=hasW_list h1;obtain⟨ns,rfl⟩:=items_int h3;have hlen:ns.length<=n:=by
  unfold OpenLaw.pre at hc;have h4:(WTm.not (.lt (.lit (.int (n:Int))) (.len (.arg 0)))).holds [] { args:=[.list (ns.map .int)] }=true:=by
   have h4:=(holds_andW hc).1;rw[hn] at h4;exact h4
  have h5:=condW_of h4 (w_not (w_lt w_lit (w_len_list (w_arg rfl))));rw[Aa0] at h5;refine Nat.le_of_not_lt λq=>?_
  have q':(n:Int)<((ns.length:Nat):Int):=by omega
  first
   | (rw[Ap1 q'] at h5;exact absurd h5 'z')
   | (simp at h5;omega)
 cases hwl with
 | cons w1 w2=>
   cases w2;cases w1 with
   | list ho hall=>exact{_,_,ns,rfl,rfl,ho,ye7 ns _ hall,hlen}
def xq3(l:OpenLaw)(args:List WData):l.row.toRowW.claim.post args (.bool true) args=true:=
 postW_of (r:=l.row.toRowW) (X:=(true == true))
  (show WShape.has [] (.bool true) .bool=true by first | rfl | decide | simp[WShape.has,WShape.arms,WShape.armsAll])
  (show (WTm.eq .res (.lit (.bool true))).value [] { args:=args,res:=some (.bool true),after:=args }=some (.bool (true == true)) from w_eq_bool (w_res rfl) w_lit) rfl
def attach_call{l:OpenLaw}{n:Nat}{q:Program}{loose:List Str}{XP:(Str->Option Value)->Heap->Prop}{YP:World->Heap->Prop}{d:DefRec}(hn:l.most=some n)(hdf:d.params.defaults=[])(call:∀(w:World) (s₀ s₁:Shared) (mg mb:Str->Option Value) (fa:Addr) (o:Obj) (pm cd doc:Value) (a:Addr) (vs:List Value) (ns:List Int),
  Ground q loose [] XP w s₀ mg mb s₁.heap->YP w s₁.heap->
  s₁.heap.get? fa=some o->o.data=.func (docDef d.name d.params d.body d.scope pm cd doc)->s₁.heap.CodeRec cd d.name->mg d.name=some (.ref fa)->
  s₁.heap.get? a=some { cls:=.type "list",data:=.seq vs.toArray }->IntsAre vs ns->ns.length<=n->s₁.gens=#[]->
  codeAny (model l.prog w) callerA (.call (.ref fa) {[.ref a],[]}) (λr s'=>r=.ok (.ret (.bool true))/\OldK s₁.heap s'.heap/\s'.os=s₁.os/\AllBare s'.gens) s₁) :
 WalkO q loose XP YP l.row.toRowW d [] (λf vs=>PySem.call f vs):=by
 intro w s₀ s₁ mg mb G Yv0 fa o pm cd doc dV kV ho hd hcd hD hmg hg args vals as hpre hlay hrd hwl hlo;obtain rfl:dV=.none:=Dflts.none hD hdf;obtain rfl:kV=.none:=Dflts.noKw hD;obtain⟨a,vs,ns,rfl,rfl,hobj,hints,hlen⟩:=xo6 hn hpre hwl;refine enter_call (codeAny_mono (call w s₀ s₁ mg mb fa o pm cd doc a vs ns G Yv0 ho (fd_plain hd) hcd hmg hobj hints hlen hg) λr s' hq=>?_);obtain⟨rfl,h2,h3,h4⟩:=hq;exact{.inl {.bool true,.bool true,[],rfl,λ_=>rfl,.bool true,xq3 l _,λ_=>{List.Pairwise.nil,λ_ hm=>(nomatch hm)}},h2,h3,h4}
section
variable{prog:Program}{w:World}{A:Around}{E:Value->Shared->Prop}{s:Shared}{K:Frag}
end
end Att
namespace L2
theorem yq6:∀{vs:List Value} {ns:List Int},IntsAre vs ns->vc8 (ns.map V.int) vs
 | _,_,.nil=>.nil
 | _,_,.cons n t h=>.cons ⟨t,rfl⟩ (yq6 h)
instance ui7(H:Hp):Prop:=∀b,H b=none\/∃o xs,H b=some (.frz o (.lst xs))
open H in
theorem we6{P:Program}{w:World}{K:PySem.W.Frag}{mg mb:Str->Option Value}{CX:CXT}{k:Nat}{fa a:Addr}{fd:FuncData}{x:Str}{sp:Sp}{s₁:Shared}{vs:List Value}{ns:List Int}(KX:K.In s₁.heap)(hns:s₁.heap.Ns mainGlobals mg)(hb:s₁.heap.Ns builtinsNs mb)(hbb:∀x:Str,x≠"__name__"->mb x=bootBuiltins x)(hlim:s₁.heap.NoLimit)(hg:s₁.gens=#[])(ha:s₁.heap.get? a=some { cls:=.type "list",data:=.seq vs.toArray })(hi:IntsAre vs ns)(hl:ns.length<=sizeLine)(hr:vd5 k callerA)(F:∀base:Heap,K.In base->base.Ns mainGlobals mg->vk3 P w K mg base CX k fa fd [x] sp)(hbind:∀(s:Shared) (u:Value),BindsTo s fd {[u],[]} [(x,u)])(hsp:∀H:Hp,ui7 H->SqL K H a (ns.map V.int)->sp [.ref a] H (λv _=>v=.bl true) λ_ _ _=>False)(hCX:∀H e s',CX [] H s₁ (λ_ _ _=>False) e s'->False) :
 codeAny (model P w) callerA (.call (.ref fa) {[.ref a],[]}) (λr s'=>r=.ok (.ret (.bool true))/\OldK s₁.heap s'.heap/\s'.os=s₁.os/\AllBare s'.gens) s₁:=by
 have rv:=yq6 hi;have lenV:=hi.length
 -- from an abstract heap in which nothing but the script may be tracked
 have core:∀H:Hp,ui7 H->SqL K H a (ns.map V.int)->HOk P w H s₁.heap->(∀b,H b≠none->b=a)->(H a≠none->K.lookup a=none)->
  codeAny (model P w) callerA (.call (.ref fa) ⟨[.ref a],[]⟩) (λr s'=>r=.ok (.ret (.bool true))/\OldK s₁.heap s'.heap/\s'.os=s₁.os/\AllBare s'.gens) s₁:=by
  intro H hO hS hok hA hK;have base_of:∀{b:Addr} {o:Obj},s₁.heap.get? b=some o->H b=none->(vr1 s₁.heap H).get? b=some o:=λe n=>wf1 e n
  have noA:∀{b:Addr} {o:Obj} {es:Array DictEntry} {ep:Nat},s₁.heap.get? b=some o->o.data=.dict es ep->H b=none:=λ{b o es ep} e d=>by
   cases q:H b with
   | none=>rfl
   | some u=>
     have e':b=a:=hA b (by rw[q];simp);subst e';rw[ha] at e;cases e;have d':Data.seq vs.toArray _=Data.dict es ep:=d;cases d'
  have nsK:∀{b:Addr} {m:Str->Option Value},s₁.heap.Ns b m->(vr1 s₁.heap H).Ns b m:=λ{b m} ⟨o,es,ep,e,d,r⟩=>{o,es,ep,base_of e (noA e d),d,r}
  have hKb:K.In (vr1 s₁.heap H):=λb o e=>base_of (KX b o e) (by
   cases q:H b with
   | none=>rfl
   | some u=>
     have e':b=a:=hA b (by rw[q];simp);subst e';rw[hK (by rw[q];simp)] at e;cases e)
  have hM:Mod K mg (vr1 s₁.heap H):={hKb,nsK hns,{mb,nsK hb,hbb},let ⟨mc,h1,h2⟩:=hlim;{mc,nsK h1,h2}};have e0:uc2 P w K mg (vr1 s₁.heap H) callerA [] s₁ H:={rfl,hM,λb o e=>wo6 e,Cr0 (xx1 _ _),trivial,λb hb=>absurd (show b∈([]:List Addr) from hb) 'd',hok,.of_eq hg};refine codeAny_mono ((F _ hKb (nsK hns)).run callerA [] s₁ H {[.ref a],[]} [.ref a] [.ref a] _ _ hr e0 (hbind s₁ (.ref a)) (.cons rfl .nil) (hsp H hO hS)) λr s' h=>?_
  cases r with
  | error e=>exact(hCX H e s' h).elim
  | ok fl=>
    cases fl with
    | next=>exact False.elim h
    | brk=>exact False.elim h
    | cont=>exact False.elim h
    | ret u=>
      obtain⟨v,H',os,bare,un,hok',r',q⟩:=h;have q':v=.bl true:=q;subst q';obtain rfl:u=Value.bool true:=r';refine{rfl,OldK.of_keep λb o e=>?_,os,bare};cases q:H b with
      | none=>exact un.keep b o e q (by intro z;exact absurd (show b∈([]:List Addr) from z) 'd') 'd'
      | some u=>
        rcases hO b with z | ⟨ob,xs,z⟩
        ·rw[q] at z;cases z
        ·have z2:=un.frzs b ob _ z
         obtain⟨e1,_⟩:=hok b _ z;obtain⟨e2,_⟩:=hok' b _ z2;rw[e] at e1;cases e1;exact e2
 cases hk:K.lookup a with
 | some o=>
   -- the script is one of the module's own objects
   have e:=KX a o hk;rw[ha] at e;cases e;refine core (λ_=>none) (λ_=>.inl rfl) (.inr {_,vs.toArray,_,hk,rfl,rfl,rfl,by rw[Ai0,lenV];exact hl,by simpa using rv}) (λb u z=>by have z':(none:Option HO)=some u:=z;cases z') (λb z=>absurd rfl z) λz=>absurd rfl z
 | none=>
   refine core (λb=>if b=a then some (.frz { cls:=.type "list",data:=.seq vs.toArray } (.lst (ns.map V.int))) else none) (λb=>?_) (.inl (.inr {{ cls:=.type "list",data:=.seq vs.toArray },if_pos rfl})) (λb u z=>?_) (λb z=>?_) λ_=>hk
   ·by_cases hb:b=a
    ·exact .inr {_,_,if_pos hb}
    ·exact .inl (if_neg hb)
   ·by_cases hb:b=a
    ·have z':=(if_pos hb).symm.trans z
     cases z';subst hb;exact{ha,by rw[Aa0];exact hl,vs,_,rv,ha}
    ·have z':=(if_neg hb).symm.trans z
     cases z'
   ·by_cases hb:b=a
    ·exact hb
    ·exact absurd (if_neg hb) z
def walk_of{l:PySem.W.OpenLaw}{n k:Nat}{q:Program}{loose:List Str}{XP:(Str->Option Value)->Heap->Prop}{YP:World->Heap->Prop}{d:DefRec}{K:Params->PySem.W.Frag}{CX:World->CXT}{sp:World->Sp}{x:Str}(hn:l.most=some n)(hn2:n<=sizeLine)(hdf:d.params.defaults=[])(hr:vd5 k callerA)(hY:∀(w:World) (h:Heap),YP w h->(K w.params).In h)(F:∀(w:World) (mg:Str->Option Value) (fa:Addr) (h:Heap),(K w.params).In h->h.Ns mainGlobals mg->mg d.name=some (.ref fa)->
  ∃fd:FuncData,(∀(s:Shared) (u:Value),BindsTo s fd {[u],[]} [(x,u)])/\
   ∀base:Heap,(K w.params).In base->base.Ns mainGlobals mg->vk3 l.prog w (K w.params) mg base (CX w) k fa fd [x] (sp w))(hsp:∀(w:World) (H:Hp) (a:Addr) (ns:List Int),ns.length<=n->ui7 H->SqL (K w.params) H a (ns.map V.int)->sp w [.ref a] H (λv _=>v=.bl true) λ_ _ _=>False)(hCX:∀(w:World) (H:Hp) (s:Shared) (e:Value) (s':Shared),CX w [] H s (λ_ _ _=>False) e s'->False) :
 PySem.W.WalkO q loose XP YP l.row.toRowW d [] (λf vs=>PySem.call f vs):=by
 refine Att.attach_call hn hdf λw s₀ s₁ mg mb fa o pm cd doc a vs ns G Yv0 ho hd hcd hmg hobj hints hlen hg=>?_
 have KX:=hY w _ Yv0;obtain⟨fd,hb,hF⟩:=F w mg fa _ KX G.T.g hmg;exact we6 KX G.T.g G.T.b G.T.builtins G.T.nolimit hg hobj hints (Ap0 hlen hn2) hr hF hb (λH hO hS=>hsp w H a ns hlen hO hS) λH e s'=>hCX w H s₁ e s'
instance zu8(s:Stmt):Arguments:=match s with
 | .FunctionDef _ a _ _ _ _ _ _ _ _=>a
 | _=>{ posonlyargs:=[],args:=[],vararg:=none,kwonlyargs:=[],kw_defaults:=[],kwarg:=none,defaults:=[] }
instance zb8(s:Stmt):List Stmt:=match s with
 | .FunctionDef _ _ b _ _ _ _ _ _ _=>b
 | _=>[]
instance za3(s:Stmt):Scope:=match s with
 | .FunctionDef _ _ _ _ _ _ sc _ _ _=>sc
 | _=>{ kind:=.function,names:=[],isGenerator:=false,isCoroutine:=false }
noncomputable abbrev CX0:CXT:=λ_ _ _ _ _ _=>False
noncomputable abbrev E0:XK:=λ_ _ _=>False
def vq8:wa6 CX0 X E0:=λ_ _ _ _ _ _ _ h=>h.elim
structure Fun(K:PySem.W.Frag)(x qual:Str)(st:Stmt)(f:Addr)(fd:FuncData):Prop where
 ex:∃(oc:Value) (od:Option Addr) (kV doc pm:Value) (an:Option Addr) (cdv ct:Value) (osl:Array (Option Value)),
  fd=fnOf x qual (zu8 st) (zb8 st) (za3 st) .none kV doc pm an cdv ct/\K.lookup f=some {oc,od,.func fd,osl}/\codeIn K cdv qual=true
 kp:keepIn K (.ref f)=true
section
variable{P:Program}{w:World}{K:PySem.W.Frag}{mg:Str->Option Value}{base:Heap}
def Fun.ok{x qual:Str}{st:Stmt}{f:Addr}{fd:FuncData}{N ps:List Str}{k:Nat}{sp:Sp}(F:Fun K x qual st f fd)(S:zc2 N ps (za3 st))(len:∀vs H Q E,sp vs H Q E->vs.length=ps.length)(hbody:∀(cdv:Value) (A:Around) (outer:List Env) (s:Shared) (H:Hp) (vs:List V) (Q:VK) (E:XK),vd5 k (A.deeper (envOfC qual (za3 st) s.heap.objs.size f cdv))->sp vs H Q E->
  ∃t,PSs (vf7 CX0 P w K mg base N qual (za3 st) f cdv A outer s H E).nox (zb8 st) t/\t { nx:=λ_ H'=>Q .non H',rt:=Q } (ve9 N vs) H):vk3 P w K mg base CX0 (k+1) f fd ps sp:=by
 obtain⟨oc,od,kV,doc,pm,an,cdv,ct,osl,rfl,lk,hcd⟩:=F.ex;refine ug7 lk hcd S len λA outer s H vs Q E hr hsp=>?_
 obtain⟨t,h,q⟩:=hbody cdv A outer s H vs Q E hr hsp;exact⟨t,h.nox,q⟩
def Fun.binds{x qual:Str}{st:Stmt}{f:Addr}{fd:FuncData}{ps:List Str}(F:Fun K x qual st f fd)(h:∀(kV doc pm:Value) (an:Option Addr) (cdv ct:Value) (us:List Value),us.length=ps.length->bindArgs (fnOf x qual (zu8 st) (zb8 st) (za3 st) .none kV doc pm an cdv ct) {us,[]}=pure (ps.zip us)):vo1 K fd ps []:=by
 obtain⟨oc,od,kV,doc,pm,an,cdv,ct,osl,rfl,lk,hcd⟩:=F.ex;exact .all (h kV doc pm an cdv ct)
def wz3{x qual:Str}{st:Stmt}{f:Addr}{oc:Value}{od an:Option Addr}{osl:Array (Option Value)}{kV doc pm cdv ct:Value}(l:K.lookup f=some {oc,od,.func (fnOf x qual (zu8 st) (zb8 st) (za3 st) .none kV doc pm an cdv ct),osl})(c:codeIn K cdv qual=true)(k:keepIn K (.ref f)=true):Fun K x qual st f (fnOf x qual (zu8 st) (zb8 st) (za3 st) .none kV doc pm an cdv ct):={⟨oc,od,kV,doc,pm,an,cdv,ct,osl,rfl,l,c⟩,k}
end
def vf6{k:Nat}(hr:vd5 k A):A.units+2<cLine:=Nat.lt_of_le_of_lt (Nat.add_le_add_left (by decide:2<=64) _) hr.units
def zq5{n:Nat}(h:n<=1000):n<sizeLine:=Nat.lt_of_le_of_lt h 'z'
def pv(i:Nat){x:Str}(hN:autoParam (X.N[i]?=some x) uR)(hv:Vis X.env.scope x:=by first | exact Or.inl rfl | exact Or.inr (Or.inl rfl) | exact Or.inr (Or.inr rfl))(hd:autoParam ((x == ("__debug__" : Str))=false) uD)(hcd:autoParam ((x == ("__classdict__" : Str))=false) uD):PE X (.Name x pos) (vj0 i):=wv7 hN hv hd hcd
def ub7{A B:Prop}(h:B):if false=true then A else B:=by
 rw[if_neg Aq0];exact h
def vz4{A B:Prop}(h:A):if true=true then A else B:=by
 rw[if_pos rfl];exact h
instance vk5(H H':Hp):Prop:=∀b o,H b=some o->H' b=some o
def vk5.refl(H:Hp):vk5 H H:=λ_ _ h=>h
section
variable{L:Type}[DecidableEq L]
instance vj5(kvs:List (L×V))(k:L):Option V:=(kvs.find? λkv=>decide (kv.1=k)).map (·.2)
instance vg8(kvs:List (L×V))(k:L)(v:V):List (L×V):=
 if (kvs.any λkv=>decide (kv.1=k))=true then kvs.map (λkv=>if kv.1=k then (kv.1,v) else kv) else kvs++[(k,v)]
def zo5{p:L×V}{r:List (L×V)}{k:L}(e:p.1=k):vj5 (p::r) k=some p.2:=by simp[vj5,Ct0,e]
def zo6{p:L×V}{r:List (L×V)}{k:L}(e:¬p.1=k):vj5 (p::r) k=vj5 r k:=by simp[vj5,Ct0,e]
theorem zv3(k:L):∀kvs:List (L×V),(kvs.any λkv=>decide (kv.1=k))=(vj5 kvs k).isSome
 | []=>rfl
 | p::r=>by
   rw[List.any_cons];by_cases e:p.1=k
   ·simp only[zo5 e,Ap1 e,Bool.true_or,Option.isSome_some]
   ·rw[zo6 e,Ao1 e,Bool.false_or];exact zv3 k r
def zl6(kvs:List (L×V))(k:L)(v:V):(vg8 kvs k v).length<=kvs.length+1:=by
 unfold vg8;split
 ·rw[Aa0];omega
 ·rw[Ak0,Ax0,Cn0];omega
theorem vn8.isSome_eq(r:vn8 o u):o.isSome=u.isSome:=by
 cases o with
 | none=>cases u with
   | none=>rfl
   | some _=>exact(show False from r).elim
 | some _=>cases u with
   | none=>exact(show False from r).elim
   | some _=>rfl
theorem vn8.getD(r:vn8 o u)(rd:vc7 d d'):vc7 (o.getD d) (u.getD d'):=by
 cases o with
 | none=>cases u with
   | none=>exact rd
   | some _=>exact(show False from r).elim
 | some _=>cases u with
   | none=>exact(show False from r).elim
   | some _=>exact r
theorem KV.val(r:KV kvs vs)(k:L):vn8 (vj5 kvs k) (valueAt vs k):=by
 unfold KV at r;induction r with
 | nil=>exact True.intro
 | @cons p q ps qs h t ih=>
   obtain⟨h1,h2⟩:=h;by_cases e:p.1=k
   ·have e':q.1=k:=h1.symm.trans e
    have b:valueAt (q::qs) k=some q.2:=by simp[valueAt,Ct0,e']
    rw[zo5 e,b];exact h2
   ·have e':¬q.1=k:=λz=>e (h1.trans z)
    have b:valueAt (q::qs) k=valueAt qs k:=by simp[valueAt,Ct0,e']
    rw[zo6 e,b];exact ih
theorem KV.any{kvs:List (L×V)}{vs:List (L×Value)}(r:KV kvs vs)(k:L):(kvs.any λkv=>decide (kv.1=k))=vs.any λkv=>decide (kv.1=k):=by
 unfold KV at r;induction r with
 | nil=>rfl
 | cons h t ih=>rw[List.any_cons,List.any_cons,ih,h.1]
theorem KV.repl(r:KV kvs vs)(k:L)(ry:vc7 y u) :
 KV (kvs.map λkv=>if kv.1=k then (kv.1,y) else kv) (vs.map λkv=>if kv.1=k then (kv.1,u) else kv):=by
 unfold KV at r ⊢;induction r with
 | nil=>exact .nil
 | @cons p q ps qs h t ih=>
   rw[Au0,Au0];refine .cons ?_ ih;obtain⟨h1,h2⟩:=h;by_cases e:p.1=k
   ·rw[if_pos e,if_pos (h1.symm.trans e)];exact⟨h1,ry⟩
   ·rw[if_neg e,if_neg (λz=>e (h1.trans z))];exact⟨h1,h2⟩
def KV.put(r:KV kvs vs)(k:L)(ry:vc7 y u):KV (vg8 kvs k y) (stored vs k u):=by
 unfold vg8 stored;rw[r.any k];by_cases e:(vs.any λkv=>decide (kv.1=k))=true
 ·rw[if_pos e,if_pos e];exact r.repl k ry
 ·rw[if_neg e,if_neg e];exact Paired.snoc r ⟨rfl,ry⟩
def KV.length{kvs:List (L×V)}{vs:List (L×Value)}(r:KV kvs vs):kvs.length=vs.length:=Paired.length r
end
theorem vl8(r:vc7 (kV k) u):(ze0 P w).is k u=true:=by
 cases k with
 | inl i=>obtain⟨t,e⟩:=(show ∃t,u=Value.int i t from r);subst e;exact yy9 P w i t
 | inr x=>obtain⟨t,e⟩:=(show ∃t,u=Value.str x t from r);subst e;exact yy8 P w x t
theorem yu3:∀{ks:List Key} {us:List Value},vc8 (ks.map kV) us->ItemsAre (ze0 P w) ks us
 | [],_,r=>by rw[List.map_nil] at r;cases r;exact .nil
 | k::ks,_,r=>by
   rw[Au0] at r;cases r with
   | cons h t=>exact .cons (vl8 h) (yu3 t)
noncomputable abbrev KT(H:Hp):List (List vc6×V)->List (List vc6×Addr×Value)->Prop:=Paired λp q=>p.1=q.1/\vk4 H q.2.1 p.1/\vc7 p.2 q.2.2
theorem KT.val(r:KT H kvs xs)(k:List vc6):vn8 (vj5 kvs k) ((atKey xs k).map (·.2)):=by
 induction r with
 | nil=>exact True.intro
 | @cons p q ps qs h t ih=>
   obtain⟨h1,_,h2⟩:=h;by_cases e:p.1=k
   ·have e':q.1=k:=h1.symm.trans e
    have b:atKey (q::qs) k=some q.2:=by simp[atKey,Ct0,e']
    rw[zo5 e,b];exact h2
   ·have e':¬q.1=k:=λz=>e (h1.trans z)
    have b:atKey (q::qs) k=atKey qs k:=by simp[atKey,Ct0,e']
    rw[zo6 e,b];exact ih
theorem KT.repl(r:KT H kvs xs)(k:List vc6)(ry:vc7 y u) :
 KT H (kvs.map λkv=>if kv.1=k then (kv.1,y) else kv) (xs.map (putAt k u)):=by
 induction r with
 | nil=>exact .nil
 | @cons p q ps qs h t ih=>
   rw[Au0,Au0];refine .cons ?_ ih;obtain⟨h1,h2,h3⟩:=h;unfold putAt;by_cases e:p.1=k
   ·rw[if_pos e,if_pos (h1.symm.trans e)];exact⟨h1,h2,ry⟩
   ·rw[if_neg e,if_neg (λz=>e (h1.trans z))];exact⟨h1,h2,h3⟩
def KT.put(r:KT H kvs xs)(k:List vc6)(hb:vk4 H b k)(ry:vc7 y u) :
 KT H (vg8 kvs k y) (storedH xs k b u):=by
 have e:(kvs.any λkv=>decide (kv.1=k))=(atKey xs k).isSome:=by
  rw[zv3,(r.val k).isSome_eq,Option.isSome_map]
 unfold vg8 storedH;rw[e];by_cases q:(atKey xs k).isSome=true
 ·rw[if_pos q,if_pos q];exact r.repl k ry
 ·rw[if_neg q,if_neg q];exact Paired.snoc r ⟨rfl,hb,ry⟩
def KT.keeps(r:KT H kvs xs)(ht:∀b ys,H b=some (.tup ys)->H' b=some (.tup ys)):KT H' kvs xs:=
 Paired.mapP r λ_ _ z=>{z.1,z.2.1.keeps ht,z.2.2}
def vy7(ok:HOk P w H h)(e:Rd H a u):vd4 P w H h a u:=e.ok ok
def vm1(ok:HOk P w H h)(e:Rd H a (.dK kvs)):kvs.length<=sizeLine/\(a == sysModules)=false/\∃vs,KV kvs vs/\h.DictOf (ze0 P w) a vs:=
 show vd4 P w H h a (.dK kvs) from vy7 ok e
def ua2(ok:HOk P w H h)(e:H a=some (.dK kvs)):kvs.length<=sizeLine/\(a == sysModules)=false/\∃vs,KV kvs vs/\h.DictOf (ze0 P w) a vs:=vm1 ok (.inl e)
def wq0{ks:List Key}(ok:HOk P w H h)(e:H a=some (.tup (ks.map kV))):(tupleKind (ze0 P w)).is h ks a:=by
 obtain⟨_,its,r,⟨o,h1,h2,n,h3⟩,_⟩:=(show vd4 P w H h a (.tup (ks.map kV)) from ok a _ e);exact{o,its.toArray,n,h1,h2,h3,by simpa using yu3 r}
theorem we7(ok:HOk P w H h):∀{k:vc6} {v:V} {u:Value},KIs H k v->vc7 v u->isT P w h k u
 | .inl i,_,_,e,r=>by subst e;obtain⟨t,rfl⟩:=r;exact yu1 i t
 | .inr x,_,_,e,r=>by subst e;obtain⟨t,rfl⟩:=r;exact yu0 x t
 | .t l,_,_,⟨b,e,q⟩,r=>by subst e;cases r;exact{b,rfl,wq0 ok q}
theorem yt8(ok:HOk P w H h):∀{ks:List vc6} {vs:List V} {us:List Value},Paired (KIs H) ks vs->vc8 vs us->Paired (isT P w h) ks us
 | _,_,_,.nil,.nil=>.nil
 | _,_,_,.cons a b,.cons c d=>.cons (we7 ok a c) (yt8 ok b d)
def key_of(ok:HOk P w H h)(e:vk4 H a ks):(zj4 P w).is h ks a:=by
 obtain⟨vs,e,pk⟩:=e;obtain⟨_,its,r,⟨o,h1,h2,n,h3⟩,_⟩:=(show vd4 P w H h a (.tup vs) from ok a _ e);exact{o,its.toArray,n,h1,h2,h3,by simpa using yt8 ok pk r}
def zn5{A:Around}(hu:A.units+2<cLine):(zj4 P w).room A.in1:=by
 show A.in1.units+1<cLine;rw[Around.in1_units];exact hu
def vk0(ok:HOk P w H h)(e:Rd H a (.dT kvs)):kvs.length<=sizeLine/\(a == sysModules)=false/\
 ∃xs,KT H kvs xs/\h.DictOfH (zj4 P w) a xs:=by
 obtain⟨z,y,xs,r,o,es,ep,h1,h2,h3,h4,h5⟩:=(show vd4 P w H h a (.dT kvs) from vy7 ok e);refine{z,y,xs,r,o,es,ep,h1,h2,h3,h4,λx hx=>?_,h5};have all:∀{l:List (List vc6×V)} {m:List (List vc6×Addr×Value)},KT H l m->∀x∈m,(zj4 P w).is h x.1 x.2.1:=by
  intro l m q;induction q with
  | nil=>intro x hx;exact nomatch hx
  | @cons p q ps qs hq t ih=>
    intro x hx;rcases Aj0.mp hx with e | hx
    ·subst e
     exact key_of ok (by rw[<-hq.1];exact hq.2.1)
    ·exact ih x hx
 exact all r x hx
def vw0(ok:HOk P w H h)(e:H a=some (.dT kvs)):kvs.length<=sizeLine/\(a == sysModules)=false/\
 ∃xs,KT H kvs xs/\h.DictOfH (zj4 P w) a xs:=vk0 ok (.inl e)
instance vi2(H:Hp)(a:Addr)(y:V)(r:Option V):Prop:=
 (∃kvs k,Rd H a (.dK kvs)/\y=kV k/\r=vj5 kvs k)\/∃kvs k b,Rd H a (.dT kvs)/\y=.ref b/\vk4 H b k/\r=vj5 kvs k
instance vq3(H:Hp)(a:Addr)(y v:V)(H':Hp):Prop:=
 (∃kvs k,H a=some (.dK kvs)/\y=kV k/\kvs.length<sizeLine/\H'=upd H a (.dK (vg8 kvs k v)))\/
 ∃kvs k b,H a=some (.dT kvs)/\y=.ref b/\vk4 H b k/\kvs.length<sizeLine/\H'=upd H a (.dT (vg8 kvs k v))
def vi2.k{H:Hp}{a:Addr}{kvs:List (Key×V)}{k:Key}(e:H a=some (.dK kvs)):vi2 H a (kV k) (vj5 kvs k):=.inl {kvs,k,.inl e,rfl,rfl}
def vi2.t{H:Hp}{a b:Addr}{kvs:List (List vc6×V)}{k:List vc6}(e:H a=some (.dT kvs))(eb:vk4 H b k):vi2 H a (.ref b) (vj5 kvs k):=.inr {kvs,k,b,.inl e,rfl,eb,rfl}
def vq3.k{H:Hp}{a:Addr}{kvs:List (Key×V)}{k:Key}{v:V}(e:H a=some (.dK kvs))(hl:kvs.length<sizeLine):vq3 H a (kV k) v (upd H a (.dK (vg8 kvs k v))):=.inl ⟨kvs,k,e,rfl,hl,rfl⟩
def vq3.t{H:Hp}{a b:Addr}{kvs:List (List vc6×V)}{k:List vc6}{v:V}(e:H a=some (.dT kvs))(eb:vk4 H b k)(hl:kvs.length<sizeLine) :
 vq3 H a (.ref b) v (upd H a (.dT (vg8 kvs k v))):=.inr ⟨kvs,k,b,e,rfl,eb,hl,rfl⟩
def Inv.big(I:Inv X A3 Y H s):sysModules<s.heap.objs.size:=by
 have h:mainGlobals<s.heap.objs.size:=(I.mod.glob.keeps I.bk).lt;exact Nat.lt_trans 'z' h
def xz0(hu:A.units+2<cLine)(I:Inv X A3 Y H s)(g:vi2 H a y (some v))(ry:vc7 y u)(h:∀w' s',Inv X A3 Y H s'->vc7 v w'->Q w' s') :
 wpAny 'e' A (getItem (.ref a) u) Q E s:=by
 rcases g with⟨kvs,k,e,ey,l⟩ | ⟨kvs,k,b,e,ey,eb,l⟩
 ·subst ey
  obtain⟨z,hd,vs,rel,dd⟩:=vm1 I.hok e;obtain⟨w',hw,rw'⟩:=vn8.some_of (v:=v) (o:=valueAt vs k) (by rw[l];exact rel.val k);exact wpAny_getItem_of (vl8 ry) dd.mapOf hw (h w' _ (I.tok _) rw')
 ·subst ey
  cases (show u=Value.ref b from ry);obtain⟨z,hd,xs,rel,dd⟩:=vk0 I.hok e;obtain⟨w',hw,rw'⟩:=vn8.some_of (v:=v) (o:=(atKey xs k).map (·.2)) (by rw[l];exact rel.val k);obtain⟨p,hp,hp2⟩:=Option.map_eq_some_iff.mp hw;refine wpAny_getItem_heap (zn5 hu) (key_of I.hok eb) dd hp ?_;rw[hp2];exact h w' _ (I.tok _) rw'
def un9(hu:A.units+2<cLine)(I:Inv X A3 Y H s)(g:vi2 H a y o)(ry:vc7 y u)(h:∀s',Inv X A3 Y H s'->Q (.bool o.isSome) s') :
 wpAny 'e' A (compareOp .In u (.ref a)) Q E s:=by
 rcases g with⟨kvs,k,e,ey,l⟩ | ⟨kvs,k,b,e,ey,eb,l⟩
 ·subst ey
  obtain⟨z,hd,vs,rel,dd⟩:=vm1 I.hok e;refine wpAny_in_of (vl8 ry) hd dd.mapOf ?_;rw[<-(rel.val k).isSome_eq,<-l];exact h _ (I.tok _)
 ·subst ey
  cases (show u=Value.ref b from ry);obtain⟨z,hd,xs,rel,dd⟩:=vk0 I.hok e;refine wpAny_in_heap (zn5 hu) (key_of I.hok eb) hd dd ?_;have q:=(rel.val k).isSome_eq;rw[Option.isSome_map] at q;rw[<-q,<-l];exact h _ (I.tok _)
def ws0(hu:A.units+2<cLine)(I:Inv X A3 Y H s)(g:vi2 H a y o)(ry:vc7 y u)(h:∀s',Inv X A3 Y H s'->Q (.bool (!o.isSome)) s') :
 wpAny 'e' A (compareOp .NotIn u (.ref a)) Q E s:=by
 rcases g with⟨kvs,k,e,ey,l⟩ | ⟨kvs,k,b,e,ey,eb,l⟩
 ·subst ey
  obtain⟨z,hd,vs,rel,dd⟩:=vm1 I.hok e;refine wpAny_notIn_of (vl8 ry) hd dd.mapOf ?_;rw[<-(rel.val k).isSome_eq,<-l];exact h _ (I.tok _)
 ·subst ey
  cases (show u=Value.ref b from ry);obtain⟨z,hd,xs,rel,dd⟩:=vk0 I.hok e;refine wpAny_notIn_heap (zn5 hu) (key_of I.hok eb) hd dd ?_;have q:=(rel.val k).isSome_eq;rw[Option.isSome_map] at q;rw[<-q,<-l];exact h _ (I.tok _)
def yg2{t':Nat}(I:Inv X A3 Y H s)(mu:Mut (H a))(hs:Heap.SameBut a s.heap h')(he:∃q,h'.get? a=some q)(new:vd4 X.prog X.w (upd H a ob) h' a ob) :
 Inv X A3 Y (upd H a ob) { s with heap:=h',toks:=t' }:=
 I.write (x:=a) (e:=a) mu (.inl rfl) (λb q hb z=>(hs.2 b hb).trans z) he new
def wj8(z:kvs.length<=sizeLine)(hd:(a == sysModules)=false)(rel:KV kvs vs)(dd:h'.DictOf (ze0 P w) a vs) :
 vd4 P w H' h' a (.dK kvs):=⟨z,hd,vs,rel,dd⟩
def xy9(hu:A.units+2<cLine)(I:Inv X A3 Y H s)(g:vq3 H a y v H')(ry:vc7 y u)(rv:vc7 v r)(h:∀s',Inv X A3 Y H' s'->Q () s') :
 wpAny 'e' A (setItem (.ref a) u r) Q E s:=by
 rcases g with⟨kvs,k,e,ey,l,eH⟩ | ⟨kvs,k,b,e,ey,eb,l,eH⟩
 ·subst ey eH
  obtain⟨z,hd,vs,rel,dd⟩:=ua2 I.hok e;have hz:vs.length<=sizeLine:=by rw[<-rel.length];exact z
  have hl:(vg8 kvs k v).length<=sizeLine:=by have:=zl6 kvs k v;omega
  refine wpAny_setItem_pairs (hsz:=hz) (vl8 ry) dd λh' dd' hs=>h _ ?_
  have he:∃q,h'.get? a=some q:=let ⟨q,_,_,hq,_⟩:=dd';⟨q,hq⟩;exact yg2 I (by rw[e];exact True.intro) hs he (wj8 hl hd (rel.put k rv) dd')
 ·subst ey eH
  cases (show u=Value.ref b from ry);obtain⟨z,hd,xs,rel,dd⟩:=vw0 I.hok e;have hz:xs.length<=sizeLine:=by rw[<-Paired.length rel];exact z
  have hl:(vg8 kvs k v).length<=sizeLine:=by have:=zl6 kvs k v;omega
  refine wpAny_setItem_heap (hsz:=hz) (zn5 hu) (key_of I.hok eb) dd λh' dd' hs=>h _ ?_
  obtain⟨q,es,ep,hq,h2,h3,h4,_,h5⟩:=dd';refine yg2 I (by rw[e];exact True.intro) hs ⟨q,hq⟩ {hl,hd,_,(rel.put k eb rv).keeps λc ys ec=>?_,q,es,ep,hq,h2,h3,h4,h5};rw[za8 (vp2 ec e (λz=>nomatch z))];exact ec
instance uc1(i:Expr):Prop:=∀ov iv,subscripted i false ov iv=operate [ov,iv] (getItem ov iv)
def wm6{T id:String}(hl:typeLookup (.type T) "__getitem__" = pure (some (.builtin id)))(hs:uc1 slice)(h:wpAny 'r' A (eval value env) (λo s₁=>wpAny 'r' A (eval slice env) (λi s₂=>s₂.TypeIs o T/\wpAny 'r' A (getItem o i) Q E s₂) E s₁) E s) :
 wpAny 'r' A (eval (.Subscript value slice pos) env) Q E s:=by
 refine Subscript_ (Ah1 h (λo s₁ h₁=>Ah1 h₁ (λi s₂ h₂=>?_) λ_ _ x=>x) λ_ _ x=>x);obtain⟨hT,h₂⟩:=h₂;unfold subscriptTail;refine Aa1 ?_;rw[getitemInPython_of_ne hT.not_modules];refine Aa1 (wpAny_specialOf hT hl ?_);have fin:wpAny 'r' A (subscripted slice false o i) (λr s₃=>wpAny 'r' A (letTemporaryGo value o r >>= λ_=>pure r) Q E s₃) E s₂:=by
  rw[hs o i];exact wpAny_operating (Ah1 h₂ (λr s₃ h₃=>Aa1 (wpAny_letTemporaryGo (Ac1 h₃))) λ_ _ x=>x)
 first
  | exact Ac1 (Aa1 fin)
  | exact Aa1 (Ac1 (Aa1 fin))
  | exact Aa1 fin
def xa1(I:Inv X A3 Y H s)(g:vi2 H a y o):s.TypeIs (.ref a) "dict":=by
 rcases g with⟨kvs,k,e,_,_⟩ | ⟨kvs,k,b,e,_,_,_⟩
 ·obtain⟨_,_,vs,_,dd⟩:=vm1 I.hok e
  exact dd.typeIs
 ·obtain⟨_,_,xs,_,dd⟩:=vk0 I.hok e
  exact dd.typeIs
instance ud5(td ty:TE):TE:=λY H Q=>td Y H λx H1=>ty Y H1 λy H2=>∃a v,x=.ref a/\vi2 H2 a y (some v)/\Q v H2
instance um3(ty td:TE):TE:=λY H Q=>ty Y H λy H1=>td Y H1 λx H2=>∃a o,x=.ref a/\vi2 H2 a y o/\Q (.bl o.isSome) H2
instance wm5(ty td:TE):TE:=λY H Q=>ty Y H λy H1=>td Y H1 λx H2=>∃a o,x=.ref a/\vi2 H2 a y o/\Q (.bl (!o.isSome)) H2
instance ue1(td ty tv:TE):TS:=λD Y H=>tv Y H λv H1=>td Y H1 λx H2=>ty Y H2 λy H3=>∃a H4,x=.ref a/\vq3 H3 a y v H4/\D.nx Y H4
def zy2(hu:X.A.units+2<cLine)(ho:PE X o td)(hi:PE X i ty)(hs:uc1 i):PE X (.Subscript o i pos) (ud5 td ty):=by
 intro A3 s Y H Q I h;refine wm6 PySem.F.slot_dict_getitem.lookup hs (thn (ho A3 s Y H _ I h) λu s1 ⟨x,H1,I1,rx,q1⟩=>thn (hi A3 s1 Y H1 _ I1 q1) λiv s2 hI90=>?_);obtain⟨y,H2,I2,ry,a,v,ex,g,q2⟩:=hI90;subst ex;obtain rfl:u=Value.ref a:=rx;exact{xa1 I2 g,xz0 hu I2 g ry λw' s3 I3 rw'=>⟨v,H2,I3,rw',q2⟩}
def wi3(hu:X.A.units+2<cLine)(hi:PE X i ty)(ho:PE X o td):PC X .In i o (um3 ty td):=by
 intro A3 s Y H Q I h;refine thn (hi A3 s Y H _ I h) λiv s1 ⟨y,H1,I1,ry,q1⟩=>thn (ho A3 s1 Y H1 _ I1 q1) λu s2 hI91=>?_
 obtain⟨x,H2,I2,rx,a,ov,ex,g,q2⟩:=hI91;subst ex;obtain rfl:u=Value.ref a:=rx;exact un9 hu I2 g ry λs3 I3=>{.bl ov.isSome,H2,I3,rfl,q2}
def ys2(hu:X.A.units+2<cLine)(hi:PE X i ty)(ho:PE X o td):PC X .NotIn i o (wm5 ty td):=by
 intro A3 s Y H Q I h;refine thn (hi A3 s Y H _ I h) λiv s1 ⟨y,H1,I1,ry,q1⟩=>thn (ho A3 s1 Y H1 _ I1 q1) λu s2 hI92=>?_
 obtain⟨x,H2,I2,rx,a,ov,ex,g,q2⟩:=hI92;subst ex;obtain rfl:u=Value.ref a:=rx;exact ws0 hu I2 g ry λs3 I3=>{.bl (!ov.isSome),H2,I3,rfl,q2}
def yy1(hu:X.A.units+2<cLine)(ho:PE X o td)(hi:PE X i ty)(hv:PE X value tv)(hs:swapsWith value (some (.Subscript o i pos')) pos.line X.env=pure false) :
 PS X (.Assign [.Subscript o i pos'] value pos) (ue1 td ty tv):=by
 intro A3 s Y H D I h;refine wpAny_Assign_Subscript (thn (hv A3 s Y H _ I h) λr s1 ⟨v,H1,I1,rv,q1⟩=>thn (ho A3 s1 Y H1 _ I1 q1) λu s2 ⟨x,H2,I2,rx,q2⟩=>thn (hi A3 s2 Y H2 _ I2 q2) λiv s3 hI93=>?_) hs;obtain⟨y,H3,I3,ry,a,H4,ex,g,q3⟩:=hI93;subst ex;obtain rfl:u=Value.ref a:=rx;exact xy9 hu I3 g ry rv λs4 I4=>⟨Y,H4,I4,q3⟩
def wf6(h:Heap)(hb:sysModules<h.objs.size):vd4 P w H (h.push { cls:=.type "dict",data:=.dict #[] }) h.objs.size (.dK []):=
 {An0 _,beq_eq_false_iff_ne.mpr (Ne.symm (As0 hb)),[],.nil,Heap.DictOf.new h}
def yo7(h:Heap)(hb:sysModules<h.objs.size):vd4 P w H (h.push { cls:=.type "dict",data:=.dict #[] }) h.objs.size (.dT []):=
 {An0 _,beq_eq_false_iff_ne.mpr (Ne.symm (As0 hb)),[],.nil,_,#[],0,Ag0 _ rfl,⟨rfl,rfl,rfl⟩,rfl,rfl,List.nodup_nil}
instance wu3:TE:=λ_ H Q=>∀p,H p=none->Q (.ref p) (upd H p (.dT []))
def wd1:PE X (.Dict [] [] pos) wu3:=λA3 s Y H Q I h=>
 wpAny_Dict_empty {.ref s.heap.objs.size,_,I.laid (a:=s.heap.objs.size) (o:=.dT []) (t':=s.toks) (λ_ _ q=>Ab0 _ q) (Ae0 _) (yo7 s.heap I.big),rfl,h _ (I.hok.fresh (Ae0 _))}
instance yr1:List (TE×TE)->St->Hp->(List (V×V)->Hp->Prop)->Prop
 | [],_,H,Q=>Q [] H
 | (tk,tv)::r,Y,H,Q=>tk Y H λx H1=>tv Y H1 λy H2=>yr1 r Y H2 λps H3=>Q ((x,y)::ps) H3
noncomputable abbrev VV:List (V×V)->List (Value×Value)->Prop:=Paired λp q=>vc7 p.1 q.1/\vc7 p.2 q.2
instance PPs(X:Cx)(pos:Pos)(keys:List (Option Expr))(values:List Expr)(trs:List (TE×TE)):Prop:=
 ∀(A3:List 'p') (s:Shared) (Y:St) (H:Hp) (Q:List (V×V)->Hp->Prop),Inv X A3 Y H s->yr1 trs Y H Q->
  wpAny 'e' X.A (evalPairs (pairTrees keys values X.env pos)) (λvs s'=>∃ps H',Inv X A3 Y H' s'/\VV ps vs/\Q ps H') X.xe s
def yy2:PPs X pos [] [] []:=λA3 s Y H Q I h=>pairTrees_nil_walk {[],H,I,.nil,h}
def yb4(hk:PE X k tk)(hv:PE X v tv)(hr:PPs X pos ks vs trs) :
 PPs X pos (some k::ks) (v::vs) ((tk,tv)::trs):=λA3 s Y H Q I h=>
 pairTrees_cons_walk (thn (hk A3 s Y H _ I h) λu s1 ⟨x,H1,I1,rx,q1⟩=>thn (hv A3 s1 Y H1 _ I1 q1) λw2 s2 ⟨y,H2,I2,ry,q2⟩=>
  thn (hr A3 s2 Y H2 _ I2 q2) λws s3 ⟨ps,H3,I3,rel,q3⟩=>{(x,y)::ps,H3,I3,.cons ⟨rx,ry⟩ rel,q3})
instance zw8(kvs more:List (Key×V)):List (Key×V):=more.foldl (λacc kv=>vg8 acc kv.1 kv.2) kvs
theorem KV.merge:∀{more:List (Key×V)} {rs:List (Key×Value)} {kvs:List (Key×V)} {vs:List (Key×Value)},KV more rs->KV kvs vs->KV (zw8 kvs more) (merged vs rs):=by
 intro more rs kvs vs r;unfold KV at r;induction r generalizing kvs vs with
 | nil=>intro q;exact q
 | @cons p q ps qs h t ih=>
   intro r0;have e:KV (vg8 kvs p.1 p.2) (stored vs q.1 q.2):=by
    have:=r0.put p.1 h.2;rw[<-h.1];exact this
   exact ih e
theorem zx1:∀(more kvs:List (Key×V)),(zw8 kvs more).length<=kvs.length+more.length
 | [],kvs=>by show kvs.length<=kvs.length+0;omega
 | p::r,kvs=>by
   have h1:=zx1 r (vg8 kvs p.1 p.2);have h2:=zl6 kvs p.1 p.2;show (zw8 (vg8 kvs p.1 p.2) r).length<=_;rw[Ax0];omega
theorem yk5:∀{kvs:List (Key×V)} {ws:List (Value×Value)},VV (kvs.map λkv=>(kV kv.1,kv.2)) ws->∃rs,Carries (ze0 P w) ws rs/\KV kvs rs
 | [],_,r=>by rw[List.map_nil] at r;cases r;exact{[],True.intro,.nil}
 | p::kvs,_,r=>by
   rw[Au0] at r;cases r with
   | @cons a b as bs h t=>
     obtain⟨rs,c,q⟩:=yk5 (P:=P) (w:=w) t;obtain⟨b1,b2⟩:=b;exact{(p.1,b2)::rs,{vl8 h.1,rfl,c},.cons ⟨rfl,h.2⟩ q}
instance vy0(trs:List (TE×TE)):TE:=λY H Q=>∀p,H p=none->yr1 trs Y (upd H p (.dK [])) λps H2=>H2 p=some (.dK [])/\∃kvs:List (Key×V),ps=kvs.map (λkv=>(kV kv.1,kv.2))/\kvs.length<=15/\Q (.ref p) (upd H2 p (.dK (zw8 [] kvs)))
def xr2(h:PPs X pos keys values trs)(hall:keys.all (·.isSome)=true)(hl:keys.length=values.length)(h0:keys≠[])(h15:keys.length<=15):PE X (.Dict keys values pos) (vy0 trs):=by
 intro A3 s Y H Q I q;have hn:=I.hok.fresh (Ae0 s.heap.objs.size);have I1:=I.laid (a:=s.heap.objs.size) (o:=.dK []) (h':=s.heap.push { cls:=.type "dict",data:=.dict #[] }) (t':=s.toks) (λ_ _ q=>Ab0 _ q) (Ae0 _) (wf6 s.heap I.big);refine wpAny_Dict_walk (knd:=ze0 X.prog X.w) hall hl h0 h15 (thn (h A3 _ Y _ _ I1 (q _ hn)) λws s2 hI94=>?_);obtain⟨ps,H2,I2,rel,e,kvs,ep,lk,q2⟩:=hI94;subst ep;obtain⟨rs,c,rk⟩:=yk5 (P:=X.prog) (w:=X.w) rel;obtain⟨z,hd,vs0,r0,dd⟩:=ua2 I2.hok e;cases r0;refine{rs,c,dd,λh' dd' hs=>{.ref s.heap.objs.size,_,?_,rfl,q2}};have hz:(zw8 [] kvs).length<=sizeLine:=by
  have h1:=zx1 kvs [];rw[Cn0] at h1;rw[sizeLine_eq];omega
 have he:∃q,h'.get? s.heap.objs.size=some q:=let ⟨q,_,_,hq,_⟩:=dd';⟨q,hq⟩;exact yg2 I2 (by rw[e];exact True.intro) hs he (wj8 hz hd (rk.merge .nil) dd')
structure M2(X:Cx)(o:Expr)(m:Str)(apos:Pos)(e f:Expr)(cpos:Pos):Prop where
 base:attributeBase o m X.env (eval o X.env)=eval o X.env
 few:((backTo cpos (starEach [e,f] X.env)).all (λx=>!x.1)&&(backToKw cpos (keywordEach [] X.env)).all (λx=>x.1.isSome)
  && decide (([e,f]:List Expr).length+([]:List Keyword).length+(if ([]:List Keyword).isEmpty then 0 else 1)<30))=true
 line:(apos.endLine == cpos.line)=true
 trees:backTo cpos (starEach [e,f] X.env)=[(false,eval e X.env),(false,eval f X.env)]
instance IsD(H:Hp)(a:Addr):Prop:=(∃kvs,Rd H a (.dK kvs))\/∃kvs,Rd H a (.dT kvs)
def wy7(I:Inv X A3 Y H s)(d:IsD H a) :
 s.TypeIs (.ref a) "dict"/\(∀b,Value.ref a=.ref b->∃ob,s.heap.get? b=some ob/\ob.dict=none)/\(a == sysModules)=false:=by
 rcases d with⟨kvs,e⟩ | ⟨kvs,e⟩
 ·obtain⟨_,hd,vs,_,dd⟩:=vm1 I.hok e
  refine{dd.typeIs,λb q=>?_,hd};cases q;obtain⟨ob,_,_,h1,h2,_⟩:=dd;exact⟨ob,h1,h2.2.1⟩
 ·obtain⟨_,hd,xs,_,dd⟩:=vk0 I.hok e
  refine{dd.typeIs,λb q=>?_,hd};cases q;obtain⟨ob,_,_,h1,h2,_⟩:=dd;exact⟨ob,h1,h2.2.1⟩
def vb4(hu:A.units+2<cLine)(I:Inv X A3 Y H s)(g:vi2 H a y o)(ry:vc7 y u)(rd:vc7 d r)(h:∀w' s',Inv X A3 Y H s'->vc7 (o.getD d) w'->Q w' s') :
 wpAny 'e' A (call (.builtin "dict.get") [.ref a,u,r]) Q E s:=by
 rcases g with⟨kvs,k,e,ey,l⟩ | ⟨kvs,k,b,e,ey,eb,l⟩
 ·subst ey
  obtain⟨z,hd,vs,rel,dd⟩:=vm1 I.hok e;refine call_meetsIn PySem.F.slot_dict_get dd.typeIs PySem.F.entry_dict_get (PySem.F.args_dict_get_3 _ _ _) (meets_dict_get_default (ze0 X.prog X.w) a (vl8 ry) hd r) {_,dd.mapOf,h _ _ (I.tok _) ?_};rw[l];exact(rel.val k).getD rd
 ·subst ey
  cases (show u=Value.ref b from ry);obtain⟨z,hd,xs,rel,dd⟩:=vk0 I.hok e;refine call_meetsIn PySem.F.slot_dict_get dd.typeIs PySem.F.entry_dict_get (PySem.F.args_dict_get_3 _ _ _) (meetsH_dict_get_default (zj4 X.prog X.w) a b hd r) {zn5 hu,k,xs,key_of I.hok eb,dd,h _ _ (I.tok _) ?_};rw[l];exact(rel.val k).getD rd
instance wu4(td ty tx:TE):TE:=λY H Q=>td Y H λx H1=>∃a,x=.ref a/\IsD H1 a/\ty Y H1 λy H2=>tx Y H2 λz H3=>∃o,vi2 H3 a y o/\Q (o.getD z) H3
def wd3(hu:X.A.units+2<cLine)(ho:PE X o td)(he:PE X e ty)(hf:PE X f tx)(m:M2 X o "get" apos e f cpos):PE X (.Call (.Attribute o "get" apos) [e,f] [] cpos) (wu4 td ty tx):=by
 intro A3 s Y H Q I h;refine wpAny_Call_method m.base m.few m.line PySem.F.plainAttrs_dict PySem.F.slot_dict_get PySem.F.type_dict_get (thn (ho A3 s Y H _ I h) λu s1 hI95=>?_);obtain⟨x,H1,I1,rx,a,ex,d,q1⟩:=hI95;subst ex;obtain rfl:u=Value.ref a:=rx;obtain⟨t1,t2,_⟩:=wy7 I1 d;refine{t1,t2,?_};rw[m.trees];refine Calls.callWith_builtin rfl (Calls.evalArgs_plain (Calls.spliced_cons (thn (he A3 s1 Y H1 _ I1 q1) λiv s2 ⟨y,H2,I2,ry,q2⟩=>Calls.spliced_cons (thn (hf A3 s2 Y H2 _ I2 q2) λfv s3 ⟨z,H3,I3,rz,ov,g,q3⟩=>Calls.spliced_nil ?_))));exact vb4 hu I3 g ry rz λw' s4 I4 rw'=>{_,H3,I4,rw',q3}
section
variable{L:Type}[DecidableEq L]
end
instance vh5(cells:List (Str×Addr)):List (Str×NameKind)->List (Str×Addr)->List (Str×Addr)
 | [],cs=>cs
 | (n,k)::r,cs=>vh5 cells r (if k == .free then (match cells.lookup n with | some a=>(n,a)::cs | none=>cs) else cs)
theorem zs3:∀(names:List (Str×NameKind)) (cs:List (Str×Addr)),(∀y∈names,y.2=.free->∃a,env.cells.lookup y.1=some a)->
 (forIn (m:=Sem) names cs λ(x:Str×NameKind) (r:List (Str×Addr))=>
  match x with
  | (name,kind)=>if (kind == .free)=true then do let a <-cellOf env name;pure (ForInStep.yield ((name,a)::r)) else pure (ForInStep.yield r))=pure (vh5 env.cells names cs)
 | [],cs,_=>rfl
 | (n,k)::r,cs,h=>by
   rw[List.forIn_cons];have ih:=λcs'=>zs3 (env:=env) r cs' λy hy=>h y (Bg0 _ hy)
   by_cases hk:(k == NameKind.free)=true
   ·have hk':k=.free:=by simpa using hk
    obtain⟨a,ha⟩:=h (n,k) Bi0 hk';simp only[hk,if_true,vh5,cellOf];have ha':env.cells.lookup n=some a:=ha;rw[ha'];exact ih _
   ·simp only[hk,vh5]
    exact ih _
def yp4(h:∀y∈scope.names,y.2=.free->∃a,env.cells.lookup y.1=some a):closureFor scope env=pure (vh5 env.cells scope.names []):=by
 simp only[closureFor];have e:=zs3 (env:=env) scope.names [] h;have e2:=congrArg (λm:Sem (List (Str×Addr))=>m >>= pure) e;exact e2
def zk4{α:Type}{x n:Str}{v:α}{l:List (Str×α)}:List.lookup x ((n,v)::l)=if x=n then some v else l.lookup x:=by
 rw[List.lookup_cons];by_cases e:x=n
 ·subst e;simp
 ·rw[if_neg e]
  have:(x == n)=false:=by simpa using e
  rw[this]
theorem xh5{cells:List (Str×Addr)}:∀(names:List (Str×NameKind)) (cs:List (Str×Addr)) (x:Str) (c:Addr),
 (∀x c,cs.lookup x=some c->cells.lookup x=some c)->(vh5 cells names cs).lookup x=some c->cells.lookup x=some c
 | [],cs,x,c,h,e=>h x c e
 | (n,k)::r,cs,x,c,h,e=>by
   refine xh5 r _ x c (λy d hy=>?_) e;by_cases hk:(k == NameKind.free)=true
   ·rw[if_pos hk] at hy
    cases ha:cells.lookup n with
    | none=>rw[ha] at hy;exact h y d hy
    | some a=>
      rw[ha] at hy;have hy:List.lookup y ((n,a)::cs)=some d:=hy;rw[zk4] at hy;by_cases e:y=n
      ·rw[if_pos e] at hy;cases hy;rw[e];exact ha
      ·rw[if_neg e] at hy;exact h y d hy
   ·rw[if_neg hk] at hy;exact h y d hy
theorem yw1{cells:List (Str×Addr)}:∀(names:List (Str×NameKind)) (cs:List (Str×Addr)) (x:Str),(∃c,cs.lookup x=some c)->∃c,(vh5 cells names cs).lookup x=some c
 | [],_,_,h=>h
 | (n,k)::r,cs,x,h=>by
   refine yw1 r _ x ?_;by_cases hk:(k == NameKind.free)=true
   ·rw[if_pos hk]
    cases ha:cells.lookup n with
    | none=>exact h
    | some a=>
      show ∃c,List.lookup x ((n,a)::cs)=some c;rw[zk4];by_cases e:x=n
      ·rw[if_pos e];exact{_,rfl}
      ·rw[if_neg e];exact h
   ·rw[if_neg hk];exact h
theorem xh6{cells:List (Str×Addr)}:∀(names:List (Str×NameKind)) (cs:List (Str×Addr)) (x:Str),(x,NameKind.free)∈names->(∃a,cells.lookup x=some a)->∃c,(vh5 cells names cs).lookup x=some c
 | [],_,_,h,_=>nomatch h
 | (n,k)::r,cs,x,h,ha=>by
   rcases Aj0.mp h with e | h'
   ·have e1:x=n:=congrArg Prod.fst e
    have e2:NameKind.free=k:=congrArg Prod.snd e;subst e1 e2;obtain⟨a,ha⟩:=ha;refine yw1 r _ x ?_;show ∃c,List.lookup x (if (NameKind.free == NameKind.free)=true then (match cells.lookup x with | some a=>(x,a)::cs | none=>cs) else cs)=some c;rw[if_pos (by rfl),ha];show ∃c,List.lookup x ((x,a)::cs)=some c;rw[zk4,if_pos rfl];exact{_,rfl}
   ·exact xh6 r _ x h' ha
instance pick(Y:St)(ixs:List (Option Nat)):St:=ixs.map λo=>match o with
 | some i=>(Y[i]?).join
 | none=>none
instance zg4(X:Cx)(N':List Str)(scope:Scope)(cl:List (Str×Addr))(C:Addr)(s:Shared)(H:Hp)(fp:List Addr):Cx:=
 { X with N:=N',s₀:=s,H₀:=H,env:=compEnvC scope cl C X.env,outer:=X.stack,ex:=fp,fn:=λ_=>false,pn:=[],xe:=λ_ _=>False }
instance zz3(env:Env)(n:Str)(k:NameKind):NameKind:=if (k == NameKind.free&&env.scope.kind == .function&&env.kindOf n == some .cell)=true then .cell else k
theorem zz7{env:Env}:∀{names:List (Str×NameKind)} {x:Str},(names.map λ(n,k)=>if (k == NameKind.free&&env.scope.kind == .function&&env.kindOf n == some .cell) then (n,NameKind.cell) else (n,k)).lookup x=(names.lookup x).map (zz3 env x)
 | [],_=>rfl
 | (n,k)::r,x=>by
   have ih:=@zz7 env r x;rw[Au0];have e1:(if (k == NameKind.free&&env.scope.kind == .function&&env.kindOf n == some .cell)=true then (n,NameKind.cell) else (n,k))=(n,zz3 env n k):=by
    unfold zz3;split<;>rfl
   show List.lookup x ((if (k == NameKind.free&&env.scope.kind == .function&&env.kindOf n == some .cell)=true then (n,NameKind.cell) else (n,k))::_)=_;rw[e1,zk4,zk4];by_cases e:x=n
   ·rw[if_pos e,if_pos e,e];rfl
   ·rw[if_neg e,if_neg e];exact ih
structure zi1(X:Cx)(N':List Str)(ixs:List (Option Nat))(scope:Scope):Prop where
 kind:scope.kind=.function
 nocell:∀y∈scope.names,y.2≠.cell
 loc:∀y∈scope.names,y.2=.local->scope.names.lookup y.1=some .local
 len:ixs.length=N'.length
 free:∀y∈scope.names,y.2=.free->X.env.scope.names.lookup y.1=some .cell\/X.env.scope.names.lookup y.1=some .free
 slot:∀(j i:Nat) (y:Str),N'[j]?=some y->ixs[j]?=some (some i)->X.N[i]?=some y/\scope.names.lookup y=some .free
open H in
def zi1.clos(S:zi1 X N' ixs scope)(I:Inv X A3 Y H s):closureFor scope X.env=pure (vh5 X.env.cells scope.names []):=
 yp4 λy hy hf=>I.ok.has y.1 (S.free y hy hf)
open H in
def Inv.comp{t':Nat}(I:Inv X A3 Y H s)(S:zi1 X N' ixs scope)(hf:∀b∈fp,vm4 X A3 H b)(hlt:∀b∈fp,∃o,s.heap.get? b=some o/\∀v,o.data≠.cell v)(hk:∀b o,s.heap.get? b=some o->h'.get? b=some o)(hn:h'.Ns s.heap.objs.size (λ_=>none)) :
 Inv (zg4 X N' scope (vh5 X.env.cells scope.names []) s.heap.objs.size s H fp) [] (pick Y ixs) H { s with heap:=h',toks:=t' }:=by
 have sub:∀x c,(vh5 X.env.cells scope.names []).lookup x=some c->X.env.cells.lookup x=some c:=λx c e=>xh5 _ _ x c (λ_ _ z=>absurd z 'd') e
 have cellOld:∀x c,X.env.cells.lookup x=some c->c<s.heap.objs.size:=λx c e=>by obtain⟨v,z⟩:=I.cell x c e;exact z.lt
 have fpOld:∀b∈fp,b<s.heap.objs.size:=λb hb=>by obtain⟨o,e,_⟩:=hlt b hb;exact Heap.lt_size e
 have kinds:∀x,Env.kindOf (compEnvC scope (vh5 X.env.cells scope.names []) s.heap.objs.size X.env) x=(scope.names.lookup x).map (zz3 X.env x):=λx=>zz7
 have hasF:∀x,scope.names.lookup x=some .free->∃c,(vh5 X.env.cells scope.names []).lookup x=some c:=λx e=>
  xh6 _ _ x (PySem.mem_of_lookup e) (I.ok.has x (S.free _ (PySem.mem_of_lookup e) rfl))
 have freeOf:∀x,(Env.kindOf (compEnvC scope (vh5 X.env.cells scope.names []) s.heap.objs.size X.env) x=some .cell\/Env.kindOf (compEnvC scope (vh5 X.env.cells scope.names []) s.heap.objs.size X.env) x=some .free)->scope.names.lookup x=some .free:=λx e=>by
  rw[kinds x] at e;cases q:scope.names.lookup x with
  | none=>rw[q] at e;rcases e with e | e<;>cases e
  | some k=>
    rw[q] at e;have nc:=S.nocell _ (PySem.mem_of_lookup q);unfold zz3 at e;rcases e with e | e
    ·have e:=Option.some.inj e
     dsimp only at e;split at e
     ·rename_i hh
      have:(k == NameKind.free)=true:=by
       cases hz:(k == NameKind.free) with
       | true=>rfl
       | false=>rw[hz] at hh;simp at hh
      rw[show k=.free by simpa using this]
     ·exact absurd e nc
    ·have e:=Option.some.inj e
     dsimp only at e;split at e
     ·cases e
     ·rw[e]
 refine{{I.ok.mod,S.kind,I.ok.glob,I.ok.blt,Ae0 _,λx y c h1 h2=>I.ok.inj x y c (sub x c h1) (sub y c h2),λx hx=>hasF x (freeOf x hx),(λ_ _ z _=>Bool.noConfusion z),I.ok.hd,I.ok.frames,.inl rfl,λb hb=>{As0 (fpOld b hb),λx c e=>(hf b hb).2.2.2.2.1 x c (sub x c e)},λb o e=>I.bs b o e,Ap0 I.ok.bsz I.sz,λb o e hb=>?_,λb hb z=>?_,I.stack,I.stkFree},rfl,I.bare,Un.kept hk,{_,hn,λj x v e1 e2 e3=>?_},λx c e=>?_,I.hok.fresh (Ae0 _),λx c e=>I.freeC x c (sub x c e),(λp hp=>absurd (show p∈([]:List 'p') from hp) 'd'),I.hok.kept hk,?_}
 ·-- base objects are no iterators
  have hf':=hf b hb;rcases hf'.2.2.2.1 with z | z
  ·exact I.ok.noex b o e z
  ·exact absurd (Az0 (Heap.lt_size (I.ok.bs b o e).1) z) (Bz0 _)
 ·-- iterators are no frames
  have hf':=hf b hb;rcases Aj0.mp (I.stkSub b z) with e | e
  ·exact hf'.2.1 e
  ·exact hf'.2.2.1 e
 ·-- the names
  have e2':(pick Y ixs)[j]?=some (some v):=e2;unfold pick at e2';rw[Af0] at e2';cases q:ixs[j]? with
  | none=>rw[q] at e2';cases e2'
  | some o=>
    rw[q] at e2';cases o with
    | none=>cases e2'
    | some i=>
      have e4:(Y[i]?).join=some v:=Option.some.inj e2';have e5:Y[i]?=some (some v):=by
       cases z:Y[i]? with
       | none=>rw[z] at e4;cases e4
       | some a=>rw[z] at e4;rw[show a=some v from e4]
      obtain⟨hx,hfr⟩:=S.slot j i x e1 q;obtain⟨m,_,hl⟩:=I.loc;have vis:Vis X.env.scope x:=by
       rcases S.free _ (PySem.mem_of_lookup hfr) rfl with z | z
       ·exact .inr (.inl z)
       ·exact .inr (.inr z)
      obtain⟨u,r,l⟩:=hl i x v hx e5 vis;refine{u,r,.inr {?_,?_}}
      ·show Env.kindOf (compEnvC scope (vh5 X.env.cells scope.names []) s.heap.objs.size X.env) x=some .cell\/Env.kindOf (compEnvC scope (vh5 X.env.cells scope.names []) s.heap.objs.size X.env) x=some .free
       rw[kinds x,hfr];show some (zz3 X.env x .free)=_\/some (zz3 X.env x .free)=_;unfold zz3;split
       ·exact .inl rfl
       ·exact .inr rfl
      ·obtain⟨c,ec⟩:=hasF x hfr
       refine{c,ec,?_};have ec':=sub x c ec;rcases l with⟨k,_⟩ | ⟨_,c2,e6,z⟩
       ·have k':X.env.scope.names.lookup x=some .local:=k
        rcases S.free _ (PySem.mem_of_lookup hfr) rfl with z | z<;>(rw[show ((x,NameKind.free):Str×NameKind).1=x from rfl,k'] at z;cases z)
       ·rw[ec'] at e6;cases e6
        obtain⟨o,ho,hd⟩:=z;exact{o,hk c o ho,hd}
 ·obtain⟨v,o,ho,hd⟩:=I.cell x c (sub x c e)
  exact{v,o,hk c o ho,hd}
 ·show (pick Y ixs).length=N'.length
  unfold pick;rw[Aa0];exact S.len
theorem yp3(I:Nat->Shared->Prop)(turn:∀n s,I n s->wpAny 'r' A (pyNext it) (λr s₁=>match r with
  | none=>R (.ok .next) s₁
  | some v=>wpAny 'r' A (letOwnedTupleGo target it v) (λ_ s₂=>wpAny 'r' A (assign target env v) (λ_ s₃=>
   wpAny 'r' A (forIn ifs true λc r=>if r=true then do let ok <-isTrue c env (eval c env);pure (ForInStep.yield ok) else pure (ForInStep.yield r)) (λok s₄=>
    if ok=true then wpAny 'r' A (eval elt env) (λx s₅=>
     wpAny 'r' A (call (.builtin "list.append") [acc,x]) (λ_ s₆=>∃m,m<n/\I m s₆) (λ_ _=>False) s₅) (λ_ _=>False) s₄
    else ∃m,m<n/\I m s₄) (λ_ _=>False) s₃) (λ_ _=>False) s₂) (λ_ _=>False) s₁) (λ_ _=>False) s)(n:Nat)(h:I n s) :
 codeAny 'r' A (.compLoop (.ListComp elt [{target,iter,ifs,0}] scope pos) 0 it acc env) R s:=by
 refine codeAny_loop rfl I (λn s hI=>?_) n h;show wpAny _ A ((compTurn (.ListComp elt [{target,iter,ifs,0}] scope pos) 0 it acc env).onRaise (λx=>do noteFrame x env;theTreesLotGoes x)) _ _ s;refine wpAny_noted ?_;rw[compTurn_list];refine Aa1 (wpAny_standAt (Aa1 (Ah1 (turn n s hI) (λr s₁ h₁=>?_) λ_ _ h'=>h'.elim)));cases r with
 | none=>exact Ac1 h₁
 | some v=>
   refine Aa1 (Ah1 h₁ (λ_ s₂ h₂=>Aa1 (Ah1 h₂ (λ_ s₃ h₃=>Aa1 (Ah1 h₃ (λok s₄ h₄=>?_) λ_ _ h'=>h'.elim)) λ_ _ h'=>h'.elim)) λ_ _ h'=>h'.elim);cases ok with
   | false=>exact Ac1 ⟨rfl,h₄⟩
   | true=>
     exact Aa1 (Aa1 (Ah1 h₄ (λx s₅ h₅=>Aa1 (Ah1 h₅ (λ_ s₆ h₆=>Ac1 (Ac1 ⟨rfl,h₆⟩)) λ_ _ h'=>h'.elim)) λ_ _ h'=>h'.elim))
instance PTs(X:Cx)(ifs:List Expr)(t:TT):Prop:=
 ∀(A3:List 'p') (s:Shared) (Y:St) (H:Hp) (Q:Bool->Hp->Prop),Inv X A3 Y H s->t Y H Q->
  wpAny 'e' X.A (forIn ifs true λc r=>if r=true then do let ok <-isTrue c X.env (eval c X.env);pure (ForInStep.yield ok) else pure (ForInStep.yield r)) (TP X A3 Y Q) X.xe s
instance uc7:TT:=λ_ H Q=>Q true H
def wn6:PTs X [] uc7:=λ_ _ _ H _ I h=>wpAny_tests_nil ⟨H,I,h⟩
def wn5(h:PT X c t):PTs X [c] t:=λA3 s Y H Q I q=>wpAny_tests_one (h A3 s Y H Q I q)
instance vs9(wi:TI)(ixs:List (Option Nat))(g:TG)(tc:TT)(te:TE):TE:=λY H Q=>wi Y H λJ H1=>∀D,H1 D=none->
 ∃W:Nat->Nat->St->Hp->Prop,(∃m,W 0 m (pick Y ixs) (upd H1 D (.lst [])))/\∀i m Y' H',W i m Y' H'->
  (J.stop i H'/\Q (.ref D) H')\/(J.go i H'/\∃N:St->Hp->Prop,(∀Y2 H2,N Y2 H2->∃m',m' < m/\W (i+1) m' Y2 H2)/\∀x H2,J.yld i H' x H2->g x Y' H2 λY3 H3=>
   tc Y3 H3 λb H4=>if b=true then te Y3 H4 λy H5=>∃ys,H5 D=some (.lst ys)/\ys.length<sizeLine/\N Y3 (upd H5 D (.lst (ys++[y]))) else N Y3 H4)
def yk4{A3:List 'p'}{Y:St}{H2:Hp}{s2:Shared}{it:Addr}{fp:List Addr}{tn:Nat->Heap->Prop}{J:It}{E:Value->Shared->Prop}{RR:Value->Addr->Result->Shared->Prop}{Q:VK}(S:zi1 X N' ixs scope)(hc:X.calm=true)(I2:Inv X A3 Y H2 s2)(T:vr8 X.prog X.w X.K tg J fp it tn)(st2:tn 0 s2.heap)(f2:∀b∈fp,vm4 X A3 H2 b)(hin:∀cl C s H fp,PG (zg4 X N' scope cl C s H fp) tg g/\PTs (zg4 X N' scope cl C s H fp) ifs tc/\PE (zg4 X N' scope cl C s H fp) elt te)(hw:∀D,H2 D=none->∃W:Nat->Nat->St->Hp->Prop,(∃m,W 0 m (pick Y ixs) (upd H2 D (.lst [])))/\∀i m Y' H',W i m Y' H'->
  (J.stop i H'/\Q (.ref D) H')\/(J.go i H'/\∃N:St->Hp->Prop,(∀Y2 H2,N Y2 H2->∃m',m' < m/\W (i+1) m' Y2 H2)/\∀x H2,J.yld i H' x H2->g x Y' H2 λY3 H3=>
   tc Y3 H3 λb H4=>if b=true then te Y3 H4 λy H5=>∃ys,H5 D=some (.lst ys)/\ys.length<sizeLine/\N Y3 (upd H5 D (.lst (ys++[y]))) else N Y3 H4))(hR:∀(D C:Addr) (H':Hp) (s':Shared) (m:Str->Option Value),s'.heap.Ns C m->C≠X.env.locals->H' C=none->X.s₀.heap.objs.size<=C->(∀x c,X.env.cells.lookup x=some c->c≠C)->(∀p∈X.pn++A3,p.1≠C)->C∉X.fs->Inv X A3 Y H' s'->Q (.ref D) H'->RR (.ref D) C (.ok .next) s') :
 wpAny 'e' X.A (newList []) (λacc s₃=>wpAny 'e' X.A (newFunctionEnv scope X.env.globals (vh5 X.env.cells scope.names []) [] X.env.qual none .none (some X.env)) (λcenv s₄=>
  codeAny 'e' X.A (.compStart (.ListComp elt [{tg,iter,ifs,0}] scope pos) 0 (.ref it) acc { cenv with scope:=relabel scope X.env }) (RR acc cenv.locals) s₄) E s₃) E s2:=by
 have fD:H2 s2.heap.objs.size=none:=I2.hok.fresh (Ae0 _);refine wpAny_newObj_type ?_;have I3:Inv X A3 Y (upd H2 s2.heap.objs.size (.lst [])) { s2 with heap:=s2.heap.push { cls:=.type "list",dict:=none,data:=.seq ([]:List Value).toArray } }:=
  I2.lnew (ys:=[]) (its:=[]) (t':=s2.toks) .nil (An0 _)
 generalize hs3:({ s2 with heap:=s2.heap.push { cls:=.type "list",dict:=none,data:=.seq ([]:List Value).toArray } }:Shared)=s3 at I3;have kp3:∀b o,s2.heap.get? b=some o->s3.heap.get? b=some o:=λb o e=>by rw[<-hs3];exact Ab0 _ e
 have os3:s3.heap.objs.size=s2.heap.objs.size+1:=by rw[<-hs3];exact Bs0 _ _
 have goal:wpAny 'e' X.A (newFunctionEnv scope X.env.globals (vh5 X.env.cells scope.names []) [] X.env.qual none .none (some X.env)) (λcenv s₄=>
  codeAny 'e' X.A (.compStart (.ListComp elt [{tg,iter,ifs,0}] scope pos) 0 (.ref it) (.ref s2.heap.objs.size) { cenv with scope:=relabel scope X.env }) (RR (.ref s2.heap.objs.size) cenv.locals) s₄) E s3:=by
  refine wpAny_newFunctionEnv S.nocell (by intro y hy;simp at hy) (λh1 hns hsb=>?_) S.kind;have kp4:∀b o,s3.heap.get? b=some o->h1.get? b=some o:=λb o e=>hsb.extBut b o (As0 (Heap.lt_size e)) (Ab0 _ e)
  have fpO:∀b∈fp,∃o,s2.heap.get? b=some o/\∀v,o.data≠.cell v:=T.obj 0 s2.heap st2;have f3:∀b∈fp,vm4 X A3 (upd H2 s2.heap.objs.size (.lst [])) b:=λb hb=>by
   obtain⟨o,e,_⟩:=fpO b hb;exact{by rw[za8 (As0 (Heap.lt_size e))];exact(f2 b hb).1,(f2 b hb).2}
  have I4:=I3.comp (h':=h1) (t':=s3.toks+([]:List (Str×Value)).length) S f3 (λb hb=>let ⟨o,e,d⟩:=fpO b hb;{o,kp3 b o e,d}) kp4 hns;have st4:tn 0 h1:=T.keep 0 _ _ st2 λb _ o e=>kp4 b o (kp3 b o e)
  show codeAny 'e' X.A (.compStart (.ListComp elt [{tg,iter,ifs,0}] scope pos) 0 (.ref it) (.ref s2.heap.objs.size) (compEnvC scope (vh5 X.env.cells scope.names []) s3.heap.objs.size X.env)) (RR (.ref s2.heap.objs.size) s3.heap.objs.size) { s3 with heap:=h1,toks:=s3.toks+([]:List (Str×Value)).length };have st4':tn 0 ({ s3 with heap:=h1,toks:=s3.toks+([]:List (Str×Value)).length }:Shared).heap:=st4;generalize ({ s3 with heap:=h1,toks:=s3.toks+([]:List (Str×Value)).length }:Shared)=s4 at I4 st4' ⊢;obtain⟨W,⟨m0,w0⟩,step⟩:=hw s2.heap.objs.size fD;have fpOld:∀b∈fp,b<s3.heap.objs.size:=λb hb=>by
   obtain⟨o,e,_⟩:=fpO b hb;exact Heap.lt_size (kp3 b o e)
  have stat:∀{H':Hp},(∀b∈fp,H' b=none)->∀b∈fp,vm4 (zg4 X N' scope (vh5 X.env.cells scope.names []) s3.heap.objs.size s3 (upd H2 s2.heap.objs.size (.lst [])) fp) [] H' b:=λhn b hb=>
   {hn b hb,As0 (fpOld b hb),λz=>I4.ok.exfs b hb z,.inl hb,(I4.ok.exf b hb).2,λp hp=>absurd (show p∈([]:List 'p') from hp) 'd'}
  have loop:codeAny 'e' X.A (.compLoop (.ListComp elt [⟨tg,iter,ifs,0⟩] scope pos) 0 (.ref it) (.ref s2.heap.objs.size) (compEnvC scope (vh5 X.env.cells scope.names []) s3.heap.objs.size X.env)) (RR (.ref s2.heap.objs.size) s3.heap.objs.size) s4:=by
   obtain⟨hg,ht,he⟩:=hin (vh5 X.env.cells scope.names []) s3.heap.objs.size s3 (upd H2 s2.heap.objs.size (.lst [])) fp;refine yp3 (λn s'=>∃i Y' H',Inv (zg4 X N' scope (vh5 X.env.cells scope.names []) s3.heap.objs.size s3 (upd H2 s2.heap.objs.size (.lst [])) fp) [] Y' H' s'/\tn i s'.heap/\(∀b∈fp,H' b=none)/\W i n Y' H') ?_ m0 {0,_,_,I4,st4',λb hb=>(f3 b hb).1,w0};rintro n s5 ⟨i,Y5,H5,I5,st5,fr5,w5⟩;rcases step i n Y5 H5 w5 with⟨stop,q⟩ | ⟨go,N,hN,go2⟩
   ·refine thn (T.done (zg4 X N' scope (vh5 X.env.cells scope.names []) s3.heap.objs.size s3 (upd H2 s2.heap.objs.size (.lst [])) fp) rfl rfl rfl hc i [] s5 Y5 H5 (λ_ _=>False) I5 (stat fr5) st5 stop) λr s6 hI96=>?_
    obtain⟨hr,I6⟩:=hI96;subst hr;obtain⟨m,hm,_⟩:=I6.loc;refine hR _ _ H5 s6 m hm (Ne.symm (As0 I3.lt)) I6.free I3.sz (λx c e z=>?_) (λp hp z=>?_) (I3.nofs (Ae0 _)) (I3.call' (ch:=fp) I6.os I6.base I6.hok I6.bare λb hb=>{(f3 b hb).2.2.2.1,(f3 b hb).2.1,(f3 b hb).2.2.2.2.1,(f3 b hb).2.2.2.2.2}) q
    ·obtain⟨v,y⟩:=I3.cell x c e
     have:=y.lt;rw[z] at this;exact absurd this (Bz0 _)
    ·have:=Heap.lt_size (I3.pin p hp).1
     rw[z] at this;exact absurd this (Bz0 _)
   ·refine thn (T.item (zg4 X N' scope (vh5 X.env.cells scope.names []) s3.heap.objs.size s3 (upd H2 s2.heap.objs.size (.lst [])) fp) rfl rfl rfl hc i [] s5 Y5 H5 (λ_ _=>False) I5 (stat fr5) st5 go) λr s6 hI97=>?_
    obtain⟨u,hr,h6⟩:=hI97;subst hr;refine thn h6 λ_ s7 hI98=>?_
    obtain⟨x,H7,I7,r7,y7,st7,fr7⟩:=hI98;have I7':=I7.pinned (stat fr7) (T.obj _ _ st7);refine thn (hg _ s7 Y5 H7 x u _ I7' r7 (go2 x H7 y7)) λ_ s8 hI99=>?_
    obtain⟨Y8,H8,I8,q8⟩:=hI99;refine thn (ht _ s8 Y8 H8 _ I8 q8) λok s9 hI100=>?_
    obtain⟨H9,I9,q9⟩:=hI100;have again:∀{sz:Shared} {Yz:St} {Hz:Hp},Inv (zg4 X N' scope (vh5 X.env.cells scope.names []) s3.heap.objs.size s3 (upd H2 s2.heap.objs.size (.lst [])) fp) ([]++ys0 fp s7.heap) Yz Hz sz->N Yz Hz->
     ∃m,m<n/\∃i Y' H',Inv (zg4 X N' scope (vh5 X.env.cells scope.names []) s3.heap.objs.size s3 (upd H2 s2.heap.objs.size (.lst [])) fp) [] Y' H' sz/\tn i sz.heap/\(∀b∈fp,H' b=none)/\W i m Y' H':=λ{sz Yz Hz} Iz nz=>by
     obtain⟨m',hm,wz⟩:=hN Yz Hz nz;refine{m',hm,i+1,Yz,Hz,Iz.unpinned,T.keep _ _ _ st7 λb hb o e=>(Iz.pin (b,o) (Bj0 _ (Bj0 _ (zt0 hb e)))).1,λb hb=>?_,wz};obtain⟨o,e,d⟩:=T.obj _ _ st7 b hb;exact(Iz.pin (b,o) (Bj0 _ (Bj0 _ (zt0 hb e)))).2.1
    cases ok with
    | false=>
      rw[if_neg 'z'] at q9 ⊢;exact again I9 q9
    | true=>
      rw[if_pos rfl] at q9 ⊢;refine thn (he _ s9 Y8 H9 _ I9 q9) λv s10 hI101=>?_
      obtain⟨y,H10,I10,r10,ys,hD,hz,q10⟩:=hI101;refine thn (zk3 _ s10 Y8 H10 (.ref s2.heap.objs.size) [y] (.ref s2.heap.objs.size) [v] (λ_ H=>N Y8 H) I10 rfl (.cons r10 .nil) {_,ys,y,rfl,rfl,hD,hz,q10}) λ_ s11 hI102=>?_
      obtain⟨_,H11,I11,_,q11⟩:=hI102;exact again I11 q11
  refine codeAny_compStart_list loop (T.self _ 0 _ _ _ st4' loop)
 exact goal
def wo0(S:zi1 X N' ixs scope)(hc:X.calm=true)(hi:PI X tg iter wi)(hin:∀cl C s H fp,PG (zg4 X N' scope cl C s H fp) tg g/\PTs (zg4 X N' scope cl C s H fp) ifs tc/\PE (zg4 X N' scope cl C s H fp) elt te)(hs:∀x,foldedSetIterable iter X.env x=pure x:=by intro _;rfl) :
 PE X (.ListComp elt [⟨tg,iter,ifs,0⟩] scope pos) (vs9 wi ixs g tc te):=by
 intro A3 s Y H Q I h;rw[eval_ListComp];refine wpAny_comprehension_free (use:=none) rfl hs (S.clos I) S.kind S.loc (thn (hi A3 s Y H _ I h) λv s1 h1=>thn h1 λitv s2 h2=>?_);obtain⟨it,fp,tn,J,H2,rfl,I2,T,st2,f2,hw⟩:=h2;refine yk4 (RR:=λacc C=>compPost 'e' X.A X.xe none (EP X A3 Y Q) acc C) S hc I2 T st2 f2 hin hw ?_;intro D C H' s' m hn hL hC hsz hcl hpn hfs I' q;refine{m,hn,λh' hs'=>{.ref D,H',?_,rfl,q}};exact I'.turned (t':=s'.toks) (λb o hb e=>hs'.extBut b o hb e) hC hL (.inr hsz) hcl hpn
open H in
def wn8{i:Nat}{y:Str}(S:zi1 X N' ixs scope)(hc:X.calm=true)(hN:X.N.Nodup)(hi:X.N[i]?=some y)(hy:X.env.scope.names.lookup y=some .local)(hit:PI X tg iter wi)(hin:∀cl C s H fp,PG (zg4 X N' scope cl C s H fp) tg g/\PTs (zg4 X N' scope cl C s H fp) ifs tc/\PE (zg4 X N' scope cl C s H fp) elt te)(hsw:swapsWith (.ListComp elt [{tg,iter,ifs,0}] scope pos) (some (.Name y py)) spos.line X.env=pure true)(hs:∀x,foldedSetIterable iter X.env x=pure x:=by intro _;rfl) :
 PS X (.Assign [.Name y py] (.ListComp elt [⟨tg,iter,ifs,0⟩] scope pos) spos) (vw7 (vs9 wi ixs g tc te) (vn4 i)):=by
 intro A3 s Y H D I h;rw[exec_Assign_Name_used _ _ _ _ hsw];refine Aa1 (wpAny_standAt (Aa1 ?_));show wpAny _ X.A (do let _ <-comprehension (.ListComp elt [⟨tg,iter,ifs,0⟩] scope pos) scope X.env _ (newList []) false (eval iter X.env) (some (assign (.Name y py) X.env))) _ _ s;refine Aa1 (Ah1 (wpAny_comprehension_free (use:=some (assign (.Name y py) X.env)) (Q:=λ_ s'=>SP X A3 D .next s') rfl hs (S.clos I) S.kind S.loc (thn (hit A3 s Y H _ I h) λv s1 h1=>thn h1 λitv s2 h2=>?_)) (λ_ s' hq=>Ac1 (Ac1 hq)) λ_ _ e=>e);obtain⟨it,fp,tn,J,H2,rfl,I2,T,st2,f2,hw⟩:=h2;refine yk4 (Q:=λx H1=>vn4 i x Y H1 D.nx) (RR:=λacc C=>compPost 'e' X.A X.xe (some (assign (.Name y py) X.env)) (λ_ s'=>SP X A3 D .next s') acc C) S hc I2 T st2 f2 hin hw ?_;intro D' C H' s' m hn hL hC hsz hcl hpn hfs I' q;show wpAny _ X.A (assign (.Name y py) X.env (.ref D')) _ _ _;refine wpAny_assign_Name (yr3 (v:=V.ref D') I' hN hi (.inl hy) rfl (λs3 I3 hI103=>?_) (.inr hy));obtain⟨a,hsb,ha⟩:=hI103;have hCa:C≠a:=by
  rcases ha with rfl | ha
  ·exact hL
  ·exact λz=>hcl y a ha z.symm
 refine{m,hn.sameBut hsb hCa,λh' hs'=>{_,H',?_,q}};exact I3.turned (t':=s3.toks) (λb o hb e=>hs'.extBut b o hb e) hC hL (.inr hsz) hcl hpn
inductive D where
 | non | bl (b:Bool) | int (i:Int) | str (x:Str) | tup (l:List D) | lst (l:List D) | dct (ks vs:List D) | fl (l:List D) | fd (ks vs:List D)
instance vi9:Key->D
 | .inl i=>.int i
 | .inr x=>.str x
instance vg9:vc6->D
 | .inl i=>.int i
 | .inr x=>.str x
 | .t l=>.tup (l.map vi9)
instance vc4(k:List vc6):D:=.tup (k.map vg9)
mutual
noncomputable def Is(K:PySem.W.Frag)(A:Addr->Prop)(H:Hp):D->V->Prop
 | .non,v=>v=.non
 | .bl b,v=>v=.bl b
 | .int i,v=>v=.int i
 | .str x,v=>v=.str x
 | .tup l,v=>∃a vs,v=.ref a/\H a=some (.tup vs)/\IsL K A H l vs
 | .lst l,v=>∃a vs,v=.ref a/\A a/\H a=some (.lst vs)/\IsL K A H l vs
 | .dct ks l,v=>∃a vs,v=.ref a/\A a/\IsL K A H l vs/\
  ((∃kk:List Key,ks=kk.map vi9/\kk.length=vs.length/\H a=some (.dK (kk.zip vs)))\/(∃kk:List (List vc6),ks=D.non::kk.map vc4/\kk.length=vs.length/\H a=some (.dT (kk.zip vs))))
 | .fl l,v=>∃a o vs,v=.ref a/\H a=some (.frz o (.lst vs))/\IsL K A H l vs
 | .fd ks l,v=>∃(a:Addr) (o:Obj) (vs:List V) (kk:List (List vc6)),v=.ref a/\ks=kk.map vc4/\kk.length=vs.length/\H a=some (.frz o (.dT (kk.zip vs)))/\IsL K A H l vs
noncomputable def IsL(K:PySem.W.Frag)(A:Addr->Prop)(H:Hp):List D->List V->Prop
 | [],vs=>vs=[]
 | d::l,vs=>∃v r,vs=v::r/\Is K A H d v/\IsL K A H l r
end
instance vo7(o:HO):Prop:=(∃u,o=.tup u)\/∃ob u,o=.frz ob u
structure vd1(A A':Addr->Prop)(H H':Hp):Prop where
 sty:∀b o,H b=some o->vo7 o->H' b=some o
 nod:∀b o,A b->H b=some o->A' b/\H' b=some o
section
variable{K:PySem.W.Frag}{A A':Addr->Prop}{H H':Hp}
def vd1.tup(k:vd1 A A' H H')(b:Addr)(u:List V)(h:H b=some (.tup u)):H' b=some (.tup u):=k.sty b _ h (.inl {_,rfl})
def vd1.frz(k:vd1 A A' H H')(b:Addr)(o:Obj)(u:HO)(h:H b=some (.frz o u)):H' b=some (.frz o u):=k.sty b _ h (.inr {_,_,rfl})
mutual
theorem Is.mono(k:vd1 A A' H H'):∀{d:D} {v:V},Is K A H d v->Is K A' H' d v
 | .non,_,h=>h
 | .bl _,_,h=>h
 | .int _,_,h=>h
 | .str _,_,h=>h
 | .tup l,v,h=>by
   unfold Is at h ⊢;obtain⟨a,vs,e,q,i⟩:=h;exact{a,vs,e,k.tup a vs q,IsL.mono k i}
 | .lst l,v,h=>by
   unfold Is at h ⊢;obtain⟨a,vs,e,n,q,i⟩:=h;exact{a,vs,e,(k.nod a _ n q).1,(k.nod a _ n q).2,IsL.mono k i}
 | .dct ks l,v,h=>by
   unfold Is at h ⊢;obtain⟨a,vs,e,n,i,q⟩:=h;refine{a,vs,e,?_,IsL.mono k i,?_}
   ·rcases q with⟨_,_,_,q⟩ | ⟨_,_,_,q⟩<;>exact(k.nod a _ n q).1
   ·rcases q with⟨kk,e1,e2,q⟩ | ⟨kk,e1,e2,q⟩
    ·exact .inl {kk,e1,e2,(k.nod a _ n q).2}
    ·exact .inr {kk,e1,e2,(k.nod a _ n q).2}
 | .fl l,v,h=>by
   unfold Is at h ⊢;obtain⟨a,o,vs,e,q,i⟩:=h;exact{a,o,vs,e,k.frz a o _ q,IsL.mono k i}
 | .fd ks l,v,h=>by
   unfold Is at h ⊢;obtain⟨a,o,vs,kk,e,e1,e2,q,i⟩:=h;exact{a,o,vs,kk,e,e1,e2,k.frz a o _ q,IsL.mono k i}
theorem IsL.mono(k:vd1 A A' H H'):∀{l:List D} {vs:List V},IsL K A H l vs->IsL K A' H' l vs
 | [],_,h=>h
 | d::l,vs,h=>by
   unfold IsL at h ⊢;obtain⟨v,r,e,i,j⟩:=h;exact{v,r,e,Is.mono k i,IsL.mono k j}
end
def IsL.nil:IsL K A H [] vs↔vs=[]:=by unfold IsL;rfl
def IsL.cons{d:D}{l:List D}{vs:List V}:IsL K A H (d::l) vs↔∃v r,vs=v::r/\Is K A H d v/\IsL K A H l r:=by conv=>lhs;unfold IsL
theorem IsL.length:∀{l:List D} {vs:List V},IsL K A H l vs->l.length=vs.length
 | [],vs,h=>by rw[IsL.nil.mp h];rfl
 | d::l,vs,h=>by
   obtain⟨v,r,e,_,j⟩:=IsL.cons.mp h;rw[e,Ax0,Ax0,IsL.length j]
theorem IsL.get:∀{l:List D} {vs:List V} {i:Nat} {d:D},IsL K A H l vs->l[i]?=some d->∃v,vs[i]?=some v/\Is K A H d v
 | [],_,_,_,_,e=>by simp at e
 | x::l,vs,0,d,h,e=>by
   obtain⟨v,r,e',i,_⟩:=IsL.cons.mp h;simp at e;subst e e';exact⟨v,rfl,i⟩
 | x::l,vs,i+1,d,h,e=>by
   obtain⟨v,r,e',_,j⟩:=IsL.cons.mp h;subst e';simpa using IsL.get (i:=i) j (by simpa using e)
theorem IsL.append:∀{l m:List D} {vs us:List V},IsL K A H l vs->IsL K A H m us->IsL K A H (l++m) (vs++us)
 | [],m,vs,us,h,g=>by rw[IsL.nil.mp h];exact g
 | d::l,m,vs,us,h,g=>by
   obtain⟨v,r,e,i,j⟩:=IsL.cons.mp h;subst e;exact IsL.cons.mpr {v,r++us,rfl,i,IsL.append j g}
def IsL.one(h:Is K A H d v):IsL K A H [d] [v]:=IsL.cons.mpr {v,[],rfl,h,IsL.nil.mpr rfl}
theorem IsL.take:∀{l:List D} {vs:List V} (n:Nat),IsL K A H l vs->IsL K A H (l.take n) (vs.take n)
 | _,_,0,_=>by simp only[List.take_zero];exact IsL.nil.mpr rfl
 | [],vs,n+1,h=>by rw[IsL.nil.mp h];simp only[List.take_nil];exact IsL.nil.mpr rfl
 | d::l,vs,n+1,h=>by
   obtain⟨v,r,e,i,j⟩:=IsL.cons.mp h;subst e;exact IsL.cons.mpr {v,r.take n,rfl,i,IsL.take n j}
theorem IsL.drop:∀{l:List D} {vs:List V} (n:Nat),IsL K A H l vs->IsL K A H (l.drop n) (vs.drop n)
 | _,_,0,h=>by simpa only[List.drop_zero] using h
 | [],vs,n+1,h=>by rw[IsL.nil.mp h];simp only[List.drop_nil];exact IsL.nil.mpr rfl
 | d::l,vs,n+1,h=>by
   obtain⟨v,r,e,i,j⟩:=IsL.cons.mp h;subst e;exact IsL.drop n j
theorem IsL.set:∀{l:List D} {vs:List V} (n:Nat) {d:D} {v:V},IsL K A H l vs->Is K A H d v->IsL K A H (l.set n d) (vs.set n v)
 | [],vs,n,d,v,h,_=>by rw[IsL.nil.mp h];simp only[List.set_nil];exact IsL.nil.mpr rfl
 | x::l,vs,0,d,v,h,g=>by
   obtain⟨w,r,e,i,j⟩:=IsL.cons.mp h;subst e;exact IsL.cons.mpr ⟨v,r,rfl,g,j⟩
 | x::l,vs,n+1,d,v,h,g=>by
   obtain⟨w,r,e,i,j⟩:=IsL.cons.mp h;subst e;exact IsL.cons.mpr {w,r.set n v,rfl,i,IsL.set n j g}
end
mutual
noncomputable def D.imm:D->Bool
 | .tup l=>D.immL l
 | .lst _=>false
 | .dct _ _=>false
 | .fd _ _=>false
 | .fl l=>D.immL l
 | _=>true
noncomputable def D.immL:List D->Bool
 | []=>true
 | d::l=>D.imm d&&D.immL l
end
section
variable{K:PySem.W.Frag}{A A':Addr->Prop}{H:Hp}
mutual
theorem Is.ofImm:∀{d:D} {v:V},d.imm=true->Is K A H d v->Is K A' H d v
 | .non,_,_,h=>h
 | .bl _,_,_,h=>h
 | .int _,_,_,h=>h
 | .str _,_,_,h=>h
 | .tup l,v,m,h=>by
   unfold Is at h ⊢;obtain⟨a,vs,e,q,i⟩:=h;exact{a,vs,e,q,IsL.ofImm (by simpa [D.imm] using m) i}
 | .lst l,v,m,_=>by simp[D.imm] at m
 | .dct _ l,v,m,_=>by simp[D.imm] at m
 | .fd _ l,v,m,_=>by simp[D.imm] at m
 | .fl l,v,m,h=>by
   unfold Is at h ⊢;obtain⟨a,o,vs,e,q,i⟩:=h;exact{a,o,vs,e,q,IsL.ofImm (by simpa [D.imm] using m) i}
theorem IsL.ofImm:∀{l:List D} {vs:List V},D.immL l=true->IsL K A H l vs->IsL K A' H l vs
 | [],_,_,h=>h
 | d::l,vs,m,h=>by
   have m':d.imm=true/\D.immL l=true:=by simpa [D.immL] using m
   unfold IsL at h ⊢;obtain⟨v,r,e,i,j⟩:=h;exact{v,r,e,Is.ofImm m'.1 i,IsL.ofImm m'.2 j}
end
def Is.tup{a:Addr}{vs:List V}{l:List D}(h:H a=some (.tup vs))(i:IsL K A H l vs):Is K A H (.tup l) (.ref a):=by
 unfold Is;exact⟨a,vs,rfl,h,i⟩
def Is.lst{a:Addr}{vs:List V}{l:List D}(n:A a)(h:H a=some (.lst vs))(i:IsL K A H l vs):Is K A H (.lst l) (.ref a):=by
 unfold Is;exact⟨a,vs,rfl,n,h,i⟩
def Is.int_iff{i:Int}:Is K A H (.int i) v↔v=.int i:=by unfold Is;rfl
def Is.bl_iff{i:Bool}:Is K A H (.bl i) v↔v=.bl i:=by unfold Is;rfl
def Is.str_iff{i:Str}:Is K A H (.str i) v↔v=.str i:=by unfold Is;rfl
def Is.non_iff:Is K A H .non v↔v=.non:=by unfold Is;rfl
def Is.tup_iff:Is K A H (.tup l) v↔∃a vs,v=.ref a/\H a=some (.tup vs)/\IsL K A H l vs:=by conv=>lhs;unfold Is
def Is.tup_sq(h:Is K A H (.tup l) v):∃a vs,v=.ref a/\SqT K H a vs/\IsL K A H l vs:=let ⟨a,vs,e,s,i⟩:=Is.tup_iff.mp h;{a,vs,e,.of s,i}
def Is.lst_iff:Is K A H (.lst l) v↔∃a vs,v=.ref a/\A a/\H a=some (.lst vs)/\IsL K A H l vs:=by conv=>lhs;unfold Is
def Is.fl_iff:Is K A H (.fl l) v↔∃a o vs,v=.ref a/\H a=some (.frz o (.lst vs))/\IsL K A H l vs:=by conv=>lhs;unfold Is
def Is.fd_iff:Is K A H (.fd ks l) v↔∃(a:Addr) (o:Obj) (vs:List V) (kk:List (List vc6)),v=.ref a/\ks=kk.map vc4/\kk.length=vs.length/\H a=some (.frz o (.dT (kk.zip vs)))/\IsL K A H l vs:=by conv=>lhs;unfold Is
def Is.dct_iff:Is K A H (.dct ks l) v↔∃a vs,v=.ref a/\A a/\IsL K A H l vs/\
 ((∃kk:List Key,ks=kk.map vi9/\kk.length=vs.length/\H a=some (.dK (kk.zip vs)))\/(∃kk:List (List vc6),ks=D.non::kk.map vc4/\kk.length=vs.length/\H a=some (.dT (kk.zip vs)))):=by conv=>lhs;unfold Is
instance D.asL:D->Option (List D)
 | .lst l=>some l
 | .fl l=>some l
 | _=>none
theorem Is.asL(h:Is K A H d v)(e:d.asL=some l):∃a vs,v=.ref a/\Rd H a (.lst vs)/\IsL K A H l vs/\∀(A':Addr->Prop) (H':Hp),vd1 A A' H H'->Rd H' a (.lst vs):=by
 cases d with
 | lst m=>
   cases e;obtain⟨a,vs,ea,n,s1,i1⟩:=Is.lst_iff.mp h;exact{a,vs,ea,.inl s1,i1,λA' H' k=>.inl (k.nod a _ n s1).2}
 | fl m=>
   cases e;obtain⟨a,o,vs,ea,s1,i1⟩:=Is.fl_iff.mp h;exact{a,vs,ea,.inr ⟨o,s1⟩,i1,λA' H' k=>.inr {o,k.sty a _ s1 (.inr {_,_,rfl})}}
 | _=>cases e
end
structure Exn where
 cls:Str
 args:List D
inductive Res(S α:Type) where
 | ok (a:α) (st:S) | exc (x:Exn) (st:S) | bad
variable{S α β γ:Type}
instance Res.bind(r:Res S α)(k:α->S->Res S β):Res S β:=match r with
 | .ok a st=>k a st
 | .exc x st=>.exc x st
 | .bad=>.bad
instance wpR(r:Res S α)(Q:α->S->Prop)(E:Exn->S->Prop):Prop:=match r with
 | .ok a st=>Q a st
 | .exc x st=>E x st
 | .bad=>False
def za2:wpR (r.bind k) Q E↔wpR r (λa st=>wpR (k a st) Q E) E:=by
 cases r<;>rfl
theorem za6{r:Res S α}{Q Q':α->S->Prop}{E E':Exn->S->Prop}(h:wpR r Q E)(hQ:∀a st,Q a st->Q' a st)(hE:∀x st,E x st->E' x st):wpR r Q' E':=by
 cases r with
 | ok a st=>exact hQ a st h
 | exc x st=>exact hE x st h
 | bad=>exact h.elim
instance vd2(o:Option α)(st:S):Res S α:=match o with
 | some a=>.ok a st
 | none=>.bad
theorem za9{o:Option α}{st:S}{Q:α->S->Prop}{E:Exn->S->Prop}:wpR (vd2 o st) Q E↔∃a,o=some a/\Q a st:=by
 cases o with
 | none=>constructor
         ·intro h;exact h.elim
         ·rintro ⟨a,e,_⟩;cases e
 | some a=>constructor
           ·intro h;exact⟨a,rfl,h⟩
           ·rintro ⟨b,e,q⟩;cases e;exact q
@[simp] theorem Res.bind_ok (a:α) (st:S) (k:α->S->Res S β):(Res.ok a st).bind k=k a st:=rfl
structure Wd(S:Type) where
 ok:S->Hp->Prop
 mv:Addr->Prop
 h:V
 stay:∀st H H',ok st H->(∀b o,mv b->H b=some o->H' b=some o)->(∀b o,H b=some o->vo7 o->H' b=some o)->ok st H'
 live:∀st H b,ok st H->mv b->∃o,H b=some o/\(∀u,o≠.tup u)/\∀ob u,o≠.frz ob u
instance W0:Wd Unit:={λ_ _=>True,λ_=>False,.non,λ_ _ _ h _ _=>h,λ_ _ _ _ h=>h.elim}
inductive Sl where
 | no | bor (d:D) | own (d:D) | hnd
noncomputable abbrev Rho:=List Sl
structure Dx{S:Type}(W:Wd S) where
 K:PySem.W.Frag
 H0:Hp
 Ex:Exn->S->Hp->Prop
 /-- addresses that no tree holds (a comprehension's list while it grows) -/
 av:Addr->Prop
instance Ext{S:Type}(W:Wd S)(H H':Hp):Prop:=∀b o,H b=some o->¬W.mv b->H' b=some o
def Ext.refl{S:Type}{W:Wd S}{H:Hp}:Ext W H H:=λ_ _ h _=>h
def Ext.trans{S:Type}{W:Wd S}{H H1 H2:Hp}(a:Ext W H H1)(b:Ext W H1 H2):Ext W H H2:=λc o h n=>b c o (a c o h n) n
def Ext.laid{S:Type}{W:Wd S}{H:Hp}{p:Addr}{o:HO}(h:H p=none):Ext W H (upd H p o):=λb u e _=>by rw[za8 (zb5 e h)];exact e
def vk5.ext{S:Type}{W:Wd S}{H H':Hp}(h:vk5 H H'):Ext W H H':=λb o e _=>h b o e
instance Ow(Y:St)(Z:Rho)(b:Addr):Prop:=∃(i:Nat) (d:D),Z[i]?=some (Sl.own d)/\Y[i]?=some (some (V.ref b))
instance Av{S:Type}{W:Wd S}(c:Dx W)(Y:St)(Z:Rho)(b:Addr):Prop:=¬W.mv b/\¬Ow Y Z b/\¬c.av b
instance Top(K:PySem.W.Frag)(A:Addr->Prop)(H:Hp)(d:D)(a:Addr):Prop:=match d with
 | .lst l=>∃vs,H a=some (.lst vs)/\IsL K A H l vs
 | .dct ks l=>∃vs,IsL K A H l vs/\((∃kk:List Key,ks=kk.map vi9/\kk.length=vs.length/\H a=some (.dK (kk.zip vs)))\/(∃kk:List (List vc6),ks=D.non::kk.map vc4/\kk.length=vs.length/\H a=some (.dT (kk.zip vs))))
 | _=>False
instance wk2{S:Type}{W:Wd S}(c:Dx W)(H:Hp)(A:Addr->Prop)(ov:Option V):Sl->Prop
 | .no=>True
 | .bor d=>∃v,ov=some v/\Is c.K A H d v
 | .own d=>∃a,ov=some (.ref a)/\(¬W.mv a/\¬c.av a)/\c.H0 a=none/\Top c.K A H d a
 | .hnd=>ov=some W.h
structure Rep{S:Type}{W:Wd S}(c:Dx W)(H:Hp)(Y:St)(Z:Rho):Prop where
 len:Y.length=Z.length
 frame:∀b o,c.H0 b=some o->¬W.mv b->H b=some o
 slot:∀(i:Nat) (s:Sl),Z[i]?=some s->wk2 c H (Av c Y Z) (Y[i]?).join s
 avl:∀b,c.av b->¬W.mv b/\c.H0 b=none/\∃o,H b=some o/\(∀u,o≠.tup u)/\∀ob u,o≠.frz ob u
 uniq:∀(i j:Nat) (a:Addr) (d e:D),Z[i]?=some (.own d)->Z[j]?=some (.own e)->Y[i]?=some (some (.ref a))->Y[j]?=some (some (.ref a))->i=j
section
variable{S:Type}{W:Wd S}{c:Dx W}{H H':Hp}{Y:St}{Z:Rho}{A A':Addr->Prop}
theorem Top.isTop(n:A a)(h:Top c.K A H d a):Is c.K A H d (.ref a):=by
 cases d with
 | lst l=>obtain⟨vs,e,i⟩:=h;exact Is.lst n e i
 | dct ks l=>obtain⟨vs,i,q⟩:=h;exact Is.dct_iff.mpr ⟨a,vs,rfl,n,i,q⟩
 | _=>exact h.elim
theorem Top.there(h:Top c.K A H d a):∃o,H a=some o/\(∀u,o≠.tup u)/\∀ob u,o≠.frz ob u:=by
 cases d with
 | lst l=>obtain⟨vs,e,i⟩:=h;exact{_,e,(λu z=>by cases z),(λob u z=>by cases z)}
 | dct ks l=>
   obtain⟨vs,i,⟨_,_,_,q⟩ | ⟨_,_,_,q⟩⟩:=h
   ·exact{_,q,(λu z=>by cases z),(λob u z=>by cases z)}
   ·exact{_,q,(λu z=>by cases z),(λob u z=>by cases z)}
 | _=>exact h.elim
theorem Top.mono(k:vd1 A A' H H')(e:∀o,H a=some o->H' a=some o)(h:Top c.K A H d a):Top c.K A' H' d a:=by
 cases d with
 | lst l=>obtain⟨vs,q,i⟩:=h;exact{vs,e _ q,i.mono k}
 | dct ks l=>
   obtain⟨vs,i,⟨kk,e1,e2,q⟩ | ⟨kk,e1,e2,q⟩⟩:=h
   ·exact{vs,i.mono k,.inl {kk,e1,e2,e _ q}}
   ·exact{vs,i.mono k,.inr {kk,e1,e2,e _ q}}
 | _=>exact h.elim
def Rep.owOk(R:Rep c H Y Z)(h:Ow Y Z b):¬W.mv b/\c.H0 b=none/\∃o,H b=some o/\(∀u,o≠.tup u)/\∀ob u,o≠.frz ob u:=by
 obtain⟨i,d,e1,e2⟩:=h;obtain⟨a,e,n,f,t⟩:=R.slot i _ e1;rw[e2] at e;have e:some (V.ref b)=some (V.ref a):=e;cases e;exact⟨n.1,f,t.there⟩
def zh7(ht:∀b o,H b=some o->(∃u,o=.tup u)\/(∃ob u,o=.frz ob u)->H' b=some o)(hn:∀b o,A b->H b=some o->A' b/\H' b=some o):vd1 A A' H H':=
 ⟨ht,hn⟩
def Ext.keepT{st:S}(e:Ext W H H')(ok:W.ok st H)(hA:∀b,A b->¬W.mv b/\A' b):vd1 A A' H H':=
 zh7 (λb o h t=>e b o h λm=>by
  obtain⟨o',h',n1,n2⟩:=W.live st H b ok m;rw[h] at h';cases h';rcases t with⟨u,z⟩ | ⟨ob,u,z⟩
  ·exact n1 u z
  ·exact n2 ob u z) λb o a h=>{(hA b a).2,e b o h (hA b a).1}
def Rep.ext{st:S}(R:Rep c H Y Z)(ok:W.ok st H)(e:Ext W H H'):Rep c H' Y Z where
 len:=R.len
 frame:=λb o h n=>e b o (R.frame b o h n) n
 avl:=λb h=>let ⟨n,z,o,h',q⟩:=R.avl b h;{n,z,o,e b o h' n,q}
 uniq:=R.uniq
 slot:=λi s h=>by
  have k:vd1 (Av c Y Z) (Av c Y Z) H H':=e.keepT ok λb a=>⟨a.1,a⟩
  have q:=R.slot i s h;cases s with
  | no=>trivial
  | bor d=>obtain⟨v,e1,i1⟩:=q;exact{v,e1,i1.mono k}
  | own d=>obtain⟨a,e1,n,f,t⟩:=q;exact{a,e1,n,f,t.mono k λo z=>e a o z n.1}
  | hnd=>exact q
end
instance D.mut:D->Bool
 | .lst _=>true
 | .dct _ _=>true
 | _=>false
inductive Gr where
 | R | B | F
instance Val{S:Type}{W:Wd S}(c:Dx W)(g:Gr)(Y:St)(Z:Rho)(H H':Hp)(d:D)(v:V):Prop:=match g with
 | .R=>Is c.K (λb=>¬W.mv b) H' d v
 | .B=>Is c.K (Av c Y Z) H' d v
 | .F=>Is c.K (Av c Y Z) H' d v/\∀a,v=.ref a->d.mut=true->H a=none
section
variable{S:Type}{W:Wd S}{c:Dx W}{H H1 H':Hp}{Y:St}{Z:Rho}{d:D}{v:V}{g:Gr}
theorem Val.toR(h:Val c g Y Z H H' d v):Val c .R Y Z H H' d v:=by
 have k:vd1 (Av c Y Z) (λb=>¬W.mv b) H' H':={λ_ _ z _=>z,λb o a z=>⟨a.1,z⟩};cases g with
 | R=>exact h
 | B=>exact Is.mono k h
 | F=>exact Is.mono k h.1
def Val.toB(h:Val c .F Y Z H H' d v):Val c .B Y Z H H' d v:=h.1
theorem Val.imm(m:d.imm=true)(h:Val c .R Y Z H H' d v)(g:Gr):Val c g Y Z H H' d v:=by
 cases g with
 | R=>exact h
 | B=>exact Is.ofImm m h
 | F=>refine{Is.ofImm m h,λa e z=>?_}
      cases d<;>simp[D.mut,D.imm] at z m
end
noncomputable abbrev Fn(S:Type):=Rho->S->Res S D
instance tD{S:Type}{W:Wd S}(c:Dx W)(g:Gr)(f:Fn S):TE:=λY H Q=>∃Z st,Rep c H Y Z/\W.ok st H/\
 wpR (f Z st) (λd st'=>∀v H',Ext W H H'->W.ok st' H'->Val c g Y Z H H' d v->Q v H') λx st'=>∀H',Ext W H H'->W.ok st' H'->c.Ex x st' H'
instance DE(X:Cx){S:Type}{W:Wd S}(c:Dx W)(g:Gr)(e:Expr)(f:Fn S):Prop:=PE X e (tD c g f)
def PE.imp{X:Cx}{e:Expr}{t t':TE}(h:PE X e t)(i:∀Y H Q,t' Y H Q->t Y H Q):PE X e t':=λA3 s Y H Q I q=>h A3 s Y H Q I (i Y H Q q)
def PT.imp{X:Cx}{e:Expr}{t t':TT}(h:PT X e t)(i:∀Y H Q,t' Y H Q->t Y H Q):PT X e t':=λA3 s Y H Q I q=>h A3 s Y H Q I (i Y H Q q)
def PS.imp{X:Cx}{e:Stmt}{t t':TS}(h:PS X e t)(i:∀D Y H,t' D Y H->t D Y H):PS X e t':=λA3 s Y H D I q=>h A3 s Y H D I (i D Y H q)
def PSs.imp{X:Cx}{e:List Stmt}{t t':TS}(h:PSs X e t)(i:∀D Y H,t' D Y H->t D Y H):PSs X e t':=λA3 s Y H D I q=>h A3 s Y H D I (i D Y H q)
section
variable{S:Type}
end
end L2
namespace L2
instance Go{S:Type}{W:Wd S}(c:Dx W)(g:Gr)(Y:St)(f:Fn S)(H:Hp)(Q:VK)(Z:Rho)(st:S):Prop:=
 wpR (f Z st) (λd st'=>∀v H',Ext W H H'->W.ok st' H'->Val c g Y Z H H' d v->Q v H') λx st'=>∀H',Ext W H H'->W.ok st' H'->c.Ex x st' H'
section
variable{S:Type}{W:Wd S}{c:Dx W}{H H1 H':Hp}{Y:St}{Z:Rho}{d:D}{v:V}{g g':Gr}{st st1:S}
theorem Ext.none(e:Ext W H H1)(ok:W.ok st H1){a:Addr}(h:H1 a=none):H a=none:=by
 cases q:H a with
 | none=>rfl
 | some o=>
   have n:¬W.mv a:=λm=>by obtain⟨o',h',_⟩:=W.live st H1 a ok m;rw[h] at h';cases h'
   rw[e a o q n] at h;cases h
theorem Val.back(e:Ext W H H1)(ok:W.ok st H1)(h:Val c g Y Z H1 H' d v):Val c g Y Z H H' d v:=by
 cases g with
 | R=>exact h
 | B=>exact h
 | F=>exact{h.1,λa ea m=>e.none ok (h.2 a ea m)}
def Val.ext(e:Ext W H' H1)(ok:W.ok st H')(h:Val c .R Y Z H H' d v):Val c .R Y Z H H1 d v:=Is.mono (e.keepT ok λb n=>⟨n,n⟩) h
def Is.ext{A:Addr->Prop}(e:Ext W H' H1)(ok:W.ok st H')(hA:∀b,A b->¬W.mv b)(h:Is c.K A H' d v):Is c.K A H1 d v:=Is.mono (e.keepT ok λb n=>{hA b n,n}) h
def IsL.ext{A:Addr->Prop}{l:List D}{vs:List V}(e:Ext W H' H1)(ok:W.ok st H')(hA:∀b,A b->¬W.mv b)(h:IsL c.K A H' l vs):IsL c.K A H1 l vs:=IsL.mono (e.keepT ok λb n=>{hA b n,n}) h
def Go.from{f:Fn S}{Q:VK}(e:Ext W H H1)(ok:W.ok st1 H1)(h:Go c g Y f H Q Z st):Go c g Y f H1 Q Z st:=
 za6 h (λd st' q v H' a b z=>q v H' (e.trans a) b (z.back e ok)) λx st' q H' a b=>q H' (e.trans a) b
def Go.bind{f:Fn S}{k:D->Fn S}{Q:VK}(R:Rep c H Y Z)(ok:W.ok st H)(h:Go c g Y (λZ st=>(f Z st).bind λd st1=>k d Z st1) H Q Z st) :
 tD c g' f Y H λv H1=>∃d st1,Rep c H1 Y Z/\W.ok st1 H1/\Ext W H H1/\Val c g' Y Z H H1 d v/\Go c g Y (k d) H1 Q Z st1:=by
 refine{Z,st,R,ok,?_};have h':=za2.mp h;refine za6 h' (λd st1 q v H1 e ok1 z=>?_) λx st1 q=>q
 exact{d,st1,R.ext ok e,ok1,e,z,za6 q (λd' st' q v' H' a b y=>q v' H' (e.trans a) b (y.back e ok1)) λx st' q H' a b=>q H' (e.trans a) b}
def Go.done(h:Go c g Y (λ_ st=>vd2 o st) H Q Z st)(ok:W.ok st H):∃d,o=some d/\∀v H',Ext W H H'->W.ok st H'->Val c g Y Z H H' d v->Q v H':=by
 obtain⟨d,e,q⟩:=za9.mp h;exact⟨d,e,q⟩
instance New{S:Type}{W:Wd S}(c:Dx W)(H H':Hp)(d:D)(v:V):Prop:=Is c.K (λb=>¬W.mv b/\H b=none) H' d v
theorem New.valF(R:Rep c H Y Z)(h:New c H H' d v):Val c .F Y Z H H' d v:=by
 have k:vd1 (λb=>¬W.mv b/\H b=Option.none) (Av c Y Z) H' H':={λ_ _ z _=>z,λb o a z=>{{a.1,(λw=>by
  obtain⟨_,_,o',h',_⟩:=R.owOk w;rw[a.2] at h';cases h'),λw=>by
  obtain⟨_,_,o',h',_⟩:=R.avl b w;rw[a.2] at h';cases h'},z}}
 refine{Is.mono k h,λa ea m=>?_};subst ea;cases d with
 | lst l=>obtain⟨b,vs,e,n,_⟩:=Is.lst_iff.mp h;cases e;exact n.2
 | dct ks l=>obtain⟨b,vs,e,n,_⟩:=Is.dct_iff.mp h;cases e;exact n.2
 | _=>simp[D.mut] at m
theorem New.val(R:Rep c H Y Z)(h:New c H H' d v)(g:Gr):Val c g Y Z H H' d v:=by
 cases g with
 | R=>exact(h.valF R).toR
 | B=>exact(h.valF R).toB
 | F=>exact h.valF R
def New.imm(m:d.imm=true)(h:Is c.K A H' d v):New c H H' d v:=Is.ofImm m h
def zd9(ok:W.ok st H)(h:H p=none):W.ok st (upd H p o):=W.stay st H _ ok (λb u _ e=>by rw[za8 (zb5 e h)];exact e) λb u e _=>by rw[za8 (zb5 e h)];exact e
def zl4{p:Addr}(ok:W.ok st H)(h:H p=none):¬W.mv p:=λm=>by
 obtain⟨o',h',_⟩:=W.live st H p ok m;rw[h] at h';cases h'
def New.tup{p:Addr}{l:List D}{vs:List V}{A:Addr->Prop}(ok:W.ok st H)(h:H p=none)(hA:∀b,A b->¬W.mv b)(m:D.immL l=true)(i:IsL c.K A H l vs):New c H (upd H p (.tup vs)) (.tup l) (.ref p):=
 Is.tup zb3 (IsL.ofImm m (i.ext (Ext.laid h) ok hA))
def New.lst{p:Addr}{l:List D}{vs:List V}{A:Addr->Prop}(ok:W.ok st H)(h:H p=none)(hA:∀b,A b->¬W.mv b)(m:D.immL l=true)(i:IsL c.K A H l vs):New c H (upd H p (.lst vs)) (.lst l) (.ref p):=
 Is.lst {zl4 ok h,h} zb3 (IsL.ofImm m (i.ext (Ext.laid h) ok hA))
end
section
variable{X:Cx}{S:Type}{W:Wd S}{c:Dx W}{g:Gr}
instance fC(S:Type)(d:D):Fn S:=λ_ st=>.ok d st
def va9{i j pos}:DE X c g (.Constant (.int i) j pos) (fC S (.int i)):=zi4.imp λY H Q ⟨Z,st,R,ok,w⟩=>w _ _ Ext.refl ok (New.val R (show New c H H (.int _) (.int _) from Is.int_iff.mpr rfl) g)
def uh4{i j pos}:DE X c g (.Constant (.bool i) j pos) (fC S (.bl i)):=uf0.imp λY H Q ⟨Z,st,R,ok,w⟩=>w _ _ Ext.refl ok (New.val R (show New c H H (.bl _) (.bl _) from Is.bl_iff.mpr rfl) g)
def va7{j pos}:DE X c g (.Constant .none j pos) (fC S .non):=ww0.imp λY H Q ⟨Z,st,R,ok,w⟩=>w _ _ Ext.refl ok (New.val R (show New c H H .non .non from Is.non_iff.mpr rfl) g)
def va5{x j pos}:DE X c g (.Constant (.str x) j pos) (fC S (.str x)):=zw0.imp λY H Q ⟨Z,st,R,ok,w⟩=>w _ _ Ext.refl ok (New.val R (show New c H H (.str _) (.str _) from Is.str_iff.mpr rfl) g)
instance rd(Z:Rho)(i:Nat):Option D:=match Z[i]? with
 | some (.bor d)=>some d
 | some (.own d)=>some d
 | _=>none
instance kp(Z:Rho)(i:Nat):Option D:=match Z[i]? with
 | some (.bor d)=>some d
 | _=>none
instance im(o:Option D):Option D:=o.bind λd=>if d.imm=true then some d else none
instance fV(S:Type)(i:Nat):Fn S:=λZ st=>vd2 (rd Z i) st
instance fVk(S:Type)(i:Nat):Fn S:=λZ st=>vd2 (kp Z i) st
theorem Rep.rd{H:Hp}{Y:St}{Z:Rho}{i:Nat}{d:D}(R:Rep c H Y Z)(h:L2.rd Z i=some d):∃v,Y[i]?=some (some v)/\Is c.K (λb=>¬W.mv b) H d v:=by
 unfold L2.rd at h;have jn:∀{o:Option (Option V)} {v:V},o.join=some v->o=some (some v):=λ{o v} e=>by cases o with
  | none=>cases e
  | some a=>rw[show a=some v from e]
 cases q:Z[i]? with
 | none=>rw[q] at h;cases h
 | some s=>
   rw[q] at h;have z:=R.slot i s q;cases s with
   | no=>cases h
   | hnd=>cases h
   | bor e=>
     cases h;obtain⟨v,e1,i1⟩:=z;exact{v,jn e1,i1.mono {λ_ _ z _=>z,λb o a z=>⟨a.1,z⟩}}
   | own e=>
     cases h;obtain⟨a,e1,n,f,t⟩:=z;exact{_,jn e1,(t.mono (A':=λb=>¬W.mv b) {λ_ _ z _=>z,λb o a z=>⟨a.1,z⟩} λo z=>z).isTop n.1}
theorem Rep.kp{H:Hp}{Y:St}{Z:Rho}{i:Nat}{d:D}(R:Rep c H Y Z)(h:L2.kp Z i=some d):∃v,Y[i]?=some (some v)/\Is c.K (Av c Y Z) H d v:=by
 unfold L2.kp at h;cases q:Z[i]? with
 | none=>rw[q] at h;cases h
 | some s=>
   rw[q] at h;have z:=R.slot i s q;cases s with
   | no=>cases h
   | hnd=>cases h
   | own e=>cases h
   | bor e=>
     cases h;obtain⟨v,e1,i1⟩:=z;refine{v,?_,i1};cases w:Y[i]? with
     | none=>rw[w] at e1;cases e1
     | some a=>rw[w] at e1;rw[show a=some v from e1]
def va4{i:Nat}{x:Str}{pos:Pos}(h:PE X (.Name x pos) (vj0 i)):DE X c .R (.Name x pos) (fV S i):=h.imp λY H Q hI3=>by
 obtain⟨Z,st,R,ok,w⟩:=hI3;obtain⟨d,e,q⟩:=za9.mp w;obtain⟨v,e1,i1⟩:=R.rd e;exact{v,e1,q v H Ext.refl ok i1}
def zf7{i:Nat}{x:Str}{pos:Pos}(h:PE X (.Name x pos) (vj0 i)):DE X c .B (.Name x pos) (fVk S i):=h.imp λY H Q hI4=>by
 obtain⟨Z,st,R,ok,w⟩:=hI4;obtain⟨d,e,q⟩:=za9.mp w;obtain⟨v,e1,i1⟩:=R.kp e;exact{v,e1,q v H Ext.refl ok i1}
instance fI(S:Type)(f:Fn S):Fn S:=λZ st=>(f Z st).bind λd st1=>if d.imm=true then .ok d st1 else .bad
instance OpD{S:Type}{W:Wd S}(c:Dx W)(r:R2)(o:D->D->Option D):Prop:=∀d1 d2 v1 v2 H (st:S) d Q,W.ok st H->Is c.K (λb=>¬W.mv b) H d1 v1->Is c.K (λb=>¬W.mv b) H d2 v2->o d1 d2=some d->
 (∀v H',Ext W H H'->W.ok st H'->New c H H' d v->Q v H')->r v1 v2 H Q
instance f2(S:Type)(o:D->D->Option D)(f1 f2:Fn S):Fn S:=λZ st=>(f1 Z st).bind λd1 st1=>(f2 Z st1).bind λd2 st2=>vd2 (o d1 d2) st2
def zf2(h:tD c g f Y H Q)(i:∀v H',Q v H'->Q' v H'):tD c g f Y H Q':=by
 obtain⟨Z,st,R,ok,w⟩:=h;exact{Z,st,R,ok,za6 w (λd st' q v H' a b z=>i v H' (q v H' a b z)) λx st' q=>q}
def vm8(hr:OpD c r o)(h:tD c g (f2 S o fa fb) Y H Q):tOp r (tD c ga fa) (tD c gb fb) Y H Q:=by
 obtain⟨Z,st,R,ok,w⟩:=h;have w:Go c g Y (λZ st=>(fa Z st).bind λd1 st1=>(λZ st1=>(fb Z st1).bind λd2 st2=>vd2 (o d1 d2) st2) Z st1) H Q Z st:=w;refine zf2 (Go.bind (g':=ga) R ok w) λv1 H1 hI104=>?_
 obtain⟨d1,st1,R1,ok1,e1,z1,w1⟩:=hI104;refine zf2 (Go.bind (g':=gb) (f:=fb) (k:=λd2 _ st2=>vd2 (o d1 d2) st2) R1 ok1 w1) λv2 H2 hI105=>?_
 obtain⟨d2,st2,R2,ok2,e2,z2,w2⟩:=hI105;obtain⟨d,e,q⟩:=Go.done w2 ok2;exact hr d1 d2 v1 v2 H2 st2 d Q ok2 (z1.toR.ext e2 ok1) z2.toR e λv H' a b n=>q v H' a b (n.val R2 g)
def vg1{op:Operator}{r:R2}{o:D->D->Option D}{a b:Expr}{pos:Pos}{fa fb:Fn S}{ga gb:Gr}(ho:OpR X (binaryOp op) r)(hr:OpD c r o)(ha:DE X c ga a fa)(hb:DE X c gb b fb):DE X c g (.BinOp a op b pos) (f2 S o fa fb):=
 (vf5 ho ha hb).imp λY H Q h=>vm8 hr h
def ya0(ho:OpR X (compareOp op) r)(hr:OpD c r o)(ha:DE X c ga a fa)(hb:DE X c gb b fb)(hm:behindInMarks op b=false):DE X c g (.Compare a [op] [b] pos) (f2 S o fa fb):=
 (wo1 ho ha hb hm).imp λY H Q h=>vm8 hr h
def vw4{r:R2}{o:D->D->Option D}{a b:Expr}{pos:Pos}{fa fb:Fn S}{ga gb:Gr}(ho:IxR X r)(hr:OpD c r o)(ha:DE X c ga a fa)(hb:DE X c gb b fb)(hs:yh2 b):DE X c g (.Subscript a b pos) (f2 S o fa fb):=
 (vt7 ho ha hb hs).imp λY H Q h=>vm8 hr h
noncomputable abbrev FnT(S:Type):=Rho->S->Res S Bool
instance tDT{S:Type}{W:Wd S}(c:Dx W)(f:FnT S):TT:=λY H Q=>∃Z st,Rep c H Y Z/\W.ok st H/\
 wpR (f Z st) (λb st'=>∀H',Ext W H H'->W.ok st' H'->Q b H') λx st'=>∀H',Ext W H H'->W.ok st' H'->c.Ex x st' H'
instance DT(X:Cx){S:Type}{W:Wd S}(c:Dx W)(e:Expr)(f:FnT S):Prop:=PT X e (tDT c f)
instance D.bool?:D->Option Bool
 | .bl b=>some b
 | _=>none
instance fB(S:Type)(f:Fn S):FnT S:=λZ st=>(f Z st).bind λd st1=>vd2 d.bool? st1
theorem yr2(h:tDT c (fB S f) Y H Q):tB (tD c g f) Y H Q:=by
 obtain⟨Z,st,R,ok,w⟩:=h;refine{Z,st,R,ok,za6 (za2.mp w) (λd st1 q v H1 e ok1 z=>?_) λx st1 q=>q};obtain⟨b,e1,q⟩:=za9.mp q;cases d with
 | bl k=>
   cases e1;have z':Is c.K (λb=>¬W.mv b) H1 (.bl b) v:=z.toR;exact{_,Is.bl_iff.mp z',q H1 e ok1}
 | _=>cases e1
def zu2{e:Expr}{f:Fn S}(h:DE X c g e f)(he:∀whole,isTrue e X.env whole=(do let v <-whole;standAt e.pos;holding [v] (truthy v)):=by intro _;rfl):DT X c e (fB S f):=
 (wu9 h he).imp λY H Q q=>yr2 q
def zc8{op:CmpOp}{r:R2}{o:D->D->Option D}{a b:Expr}{pos:Pos}{fa fb:Fn S}{ga gb:Gr}(ho:OpR X (compareOp op) r)(hr:OpD c r o)(ha:DE X c ga a fa)(hb:DE X c gb b fb)(hm:behindInMarks op b=false):DT X c (.Compare a [op] [b] pos) (fB S (f2 S o fa fb)):=
 (yx9 ho ha hb hm).imp λY H Q q=>by
  have q':tB (tD c .R (f2 S o fa fb)) Y H Q:=yr2 q;exact vm8 (ga:=ga) (gb:=gb) hr q'
instance uh2(S:Type)(f1 f2:FnT S):FnT S:=λZ st=>(f1 Z st).bind λb st1=>if b=true then f2 Z st1 else .ok false st1
instance fOr(S:Type)(f1 f2:FnT S):FnT S:=λZ st=>(f1 Z st).bind λb st1=>if b=true then .ok true st1 else f2 Z st1
instance ug8(S:Type)(f1:FnT S):FnT S:=λZ st=>(f1 Z st).bind λb st1=>.ok (!b) st1
instance DW(X:Cx){S:Type}{W:Wd S}(c:Dx W)(e:Expr)(f:FnT S):Prop:=PW X e (tDT c f)
def PW.imp{X:Cx}{e:Expr}{t t':TT}(h:PW X e t)(i:∀Y H Q,t' Y H Q->t Y H Q):PW X e t':=λw A3 s Y H Q I q=>h w A3 s Y H Q I (i Y H Q q)
def DW.dt{e:Expr}{f:FnT S}(h:DW X c e f):DT X c e f:=PW.pt h
def yo5{a:Expr}{pos:Pos}{f:FnT S}(h:DT X c a f):DW X c (.BoolOp .And [a] pos) f:=pw_and1 h
def yf9{a:Expr}{pos:Pos}{f:FnT S}(h:DT X c a f):DW X c (.BoolOp .Or [a] pos) f:=pw_or1 h
def yv4{a b:Expr}{rest:List Expr}{pos:Pos}{f1 f2:FnT S}(ha:DT X c a f1)(hb:DW X c (.BoolOp .And (b::rest) pos) f2):DW X c (.BoolOp .And (a::b::rest) pos) (uh2 S f1 f2):=
 (pw_and ha hb).imp λY H Q hI5=>by
  obtain⟨Z,st,R,ok,w⟩:=hI5;refine{Z,st,R,ok,za6 (za2.mp w) (λb st1 q H1 e ok1=>?_) λx st1 q=>q};cases b with
  | true=>exact{Z,st1,R.ext ok e,ok1,za6 q (λb st2 q H2 e2=>q H2 (e.trans e2)) λx st2 q H2 e2=>q H2 (e.trans e2)}
  | false=>exact q H1 e ok1
def vm0{a b:Expr}{rest:List Expr}{pos:Pos}{f1 f2:FnT S}(ha:DT X c a f1)(hb:DW X c (.BoolOp .Or (b::rest) pos) f2):DW X c (.BoolOp .Or (a::b::rest) pos) (fOr S f1 f2):=
 (pw_or ha hb).imp λY H Q hI6=>by
  obtain⟨Z,st,R,ok,w⟩:=hI6;refine{Z,st,R,ok,za6 (za2.mp w) (λb st1 q H1 e ok1=>?_) λx st1 q=>q};cases b with
  | false=>exact{Z,st1,R.ext ok e,ok1,za6 q (λb st2 q H2 e2=>q H2 (e.trans e2)) λx st2 q H2 e2=>q H2 (e.trans e2)}
  | true=>exact q H1 e ok1
def xg5{a:Expr}{pos:Pos}{f1:FnT S}(ha:DT X c a f1):DT X c (.UnaryOp .Not a pos) (ug8 S f1):=
 (wv0 ha).imp λY H Q ⟨Z,st,R,ok,w⟩=>{Z,st,R,ok,za6 (za2.mp w) (λb st1 q H1 e ok1=>q H1 e ok1) λx st1 q=>q}
noncomputable abbrev FnA(S:Type):=Rho->S->Res S (List D)
instance tDA{S:Type}{W:Wd S}(c:Dx W)(f:FnA S):TA:=λY H Q=>∃Z st,Rep c H Y Z/\W.ok st H/\
 wpR (f Z st) (λl st'=>∀vs H',Ext W H H'->W.ok st' H'->IsL c.K (λb=>¬W.mv b) H' l vs->Q vs H') λx st'=>∀H',Ext W H H'->W.ok st' H'->c.Ex x st' H'
instance DA(X:Cx){S:Type}{W:Wd S}(c:Dx W)(es:List Expr)(f:FnA S):Prop:=PA X es (tDA c f)
def PA.imp(h:PA X e t)(i:∀Y H Q,t' Y H Q->t Y H Q):PA X e t':=λp A3 s Y H Q I q=>h p A3 s Y H Q I (i Y H Q q)
instance vx2(S:Type):FnA S:=λ_ st=>.ok [] st
instance vf8(S:Type)(f:Fn S)(r:FnA S):FnA S:=λZ st=>(f Z st).bind λd st1=>(r Z st1).bind λl st2=>.ok (d::l) st2
def vb3:DA X c [] (vx2 S):=zn8.imp λY H Q ⟨Z,st,R,ok,w⟩=>w [] H Ext.refl ok (IsL.nil.mpr rfl)
def zi0{e:Expr}{es:List Expr}{f:Fn S}{r:FnA S}(h:DE X c g e f)(hr:DA X c es r)(hs:autoParam (starEach (e::es) X.env=(false,eval e X.env)::starEach es X.env) uR):DA X c (e::es) (vf8 S f r):=
 (zf6 h hr hs).imp λY H Q hI7=>by
  obtain⟨Z,st,R,ok,w⟩:=hI7;refine{Z,st,R,ok,za6 (za2.mp w) (λd st1 q v H1 e ok1 z=>?_) λx st1 q=>q};refine{Z,st1,R.ext ok e,ok1,za6 (za2.mp q) (λl st2 q vs H2 e2 ok2 z2=>?_) λx st2 q H2 e2 ok2=>q H2 (e.trans e2) ok2};exact q (v::vs) H2 (e.trans e2) ok2 (IsL.cons.mpr {v,vs,rfl,z.toR.ext e2 ok1,z2})
instance fA(S:Type)(o:List D->Option D)(f:FnA S):Fn S:=λZ st=>(f Z st).bind λl st1=>vd2 (o l) st1
instance vf4{S:Type}{W:Wd S}(c:Dx W)(r:List V->Hp->VK->Prop)(o:List D->Option D):Prop:=∀l vs H (st:S) d Q,W.ok st H->IsL c.K (λb=>¬W.mv b) H l vs->o l=some d->
 (∀v H',Ext W H H'->W.ok st H'->New c H H' d v->Q v H')->r vs H Q
def yx0(hr:vf4 c r o)(h:tD c g (fA S o f) Y H Q):tDA c f Y H λvs H1=>r vs H1 Q:=by
 obtain⟨Z,st,R,ok,w⟩:=h;refine{Z,st,R,ok,za6 (za2.mp w) (λl st1 q vs H1 e ok1 z=>?_) λx st1 q=>q};obtain⟨d,e1,q⟩:=za9.mp q;exact hr l vs H1 st1 d Q ok1 z e1 λv H' a b n=>q v H' (e.trans a) b ((n.val (R.ext ok e) g).back e ok1)
instance vn1(l:List D):Option D:=if D.immL l=true/\l.length<=sizeLine then some (.tup l) else none
instance vq9(l:List D):Option D:=if D.immL l=true/\l.length<=sizeLine then some (.lst l) else none
open H in
def vb6:vf4 c (λxs H1 Q=>xs.length<=sizeLine/\∀p,H1 p=none->Q (.ref p) (upd H1 p (.tup xs))) vn1:=by
 intro l vs H st d Q ok z e q;unfold vn1 at e;split at e
 ·rename_i h
  cases e;exact{by rw[<-z.length];exact h.2,λp hp=>q _ _ (Ext.laid hp) (zd9 ok hp) (New.tup ok hp (λ_ n=>n) h.1 z)}
 ·cases e
open H in
def vb7:vf4 c (λxs H1 Q=>xs.length<=sizeLine/\∀p,H1 p=none->Q (.ref p) (upd H1 p (.lst xs))) vq9:=by
 intro l vs H st d Q ok z e q;unfold vq9 at e;split at e
 ·rename_i h
  cases e;exact{by rw[<-z.length];exact h.2,λp hp=>q _ _ (Ext.laid hp) (zd9 ok hp) (New.lst ok hp (λ_ n=>n) h.1 z)}
 ·cases e
def zs1{es:List Expr}{x1}{pos:Pos}{f:FnA S}(h:DA X c es f):DE X c g (.Tuple es x1 pos) (fA S vn1 f):=(wi2 h).imp λY H Q q=>yx0 (g:=g) vb6 q
def xy8{es:List Expr}{pos:Pos}{f:FnA S}(h:DA X c es f):DE X c g (.List es pos) (fA S vq9 f):=(xr0 h).imp λY H Q q=>yx0 (g:=g) vb7 q
def xh4{id:String}{x:Str}(h:PE X (.Call (.Name x p) (e::es) [] pos) (tCB r t))(ht:t=tDA c f)(hr:vf4 c r o):DE X c g (.Call (.Name x p) (e::es) [] pos) (fA S o f):=
 h.imp λY H Q q=>by rw[ht];exact yx0 (g:=g) hr q
instance sp0(K:PySem.W.Frag)(F:List D->Res Unit D):Sp:=λvs H Q _=>∃l,IsL K (λ_=>True) H l vs/\wpR (F l) (λd _=>∀v H',vk5 H H'->Is K (λb=>H b=none) H' d v->Q v H') λ_ _=>False
instance spS{S:Type}(W:Wd S)(K:PySem.W.Frag)(F:List D->S->Res S D):Sp:=λvs H Q _=>∃l us st,vs=W.h::us/\IsL K (λb=>¬W.mv b) H l us/\W.ok st H/\
 wpR (F l st) (λd st'=>∀v H',Ext W H H'->W.ok st' H'->Is K (λb=>¬W.mv b/\H b=none) H' d v->Q v H') λ_ _=>False
instance vr6(S:Type)(F:List D->Res Unit D)(f:FnA S):Fn S:=λZ st=>(f Z st).bind λl st1=>match F l with
 | .ok d _=>.ok d st1
 | _=>.bad
theorem wc2(h:tD c g (vr6 S F f) Y H Q):vq4 (sp0 c.K F) [] E (tDA c f) Y H Q:=by
 obtain⟨Z,st,R,ok,w⟩:=h;refine{Z,st,R,ok,za6 (za2.mp w) (λl st1 q vs H1 e ok1 z=>?_) λx st1 q=>q};show sp0 c.K F (vs++[]) H1 Q E;rw[Bh0];refine{l,IsL.mono (A:=λb=>¬W.mv b) {λ_ _ z _=>z,λb o a z=>⟨trivial,z⟩} z,?_};cases q':F l with
 | ok d u=>
   rw[q'] at q;intro v H' s n;have okH:W.ok st1 H':=W.stay st1 H1 H' ok1 (λb o _ hb=>s b o hb) λb o hb _=>s b o hb
   have n':New c H1 H' d v:=Is.mono (A:=λb=>H1 b=none) {λ_ _ z _=>z,λb o a z=>{{zl4 ok1 a,a},z}} n;exact q v H' (e.trans s.ext) okH ((n'.val (R.ext ok e) g).back e ok1)
 | exc x u=>rw[q'] at q;exact q.elim
 | bad=>rw[q'] at q;exact q.elim
instance yv2(S:Type)(F:List D->S->Res S D)(i:Nat)(f:FnA S):Fn S:=λZ st=>match Z[i]? with
 | some .hnd=>(f Z st).bind λl st1=>match F l st1 with
   | .ok d st2=>.ok d st2
   | _=>.bad
 | _=>.bad
theorem wc1{i:Nat}(h:tD c g (yv2 S F i f) Y H Q):vq4 (spS W c.K F) [] E (vl5 (vj0 i) (tDA c f)) Y H Q:=by
 obtain⟨Z,st,R,ok,w⟩:=h;unfold yv2 at w;cases hi:Z[i]? with
 | none=>rw[hi] at w;exact w.elim
 | some s=>
   rw[hi] at w;have zs:=R.slot i s hi;cases s with
   | no=>exact w.elim
   | bor d=>exact w.elim
   | own d=>exact w.elim
   | hnd=>
     have zs:(Y[i]?).join=some W.h:=zs;have ei:Y[i]?=some (some W.h):=by
      cases q:Y[i]? with
      | none=>rw[q] at zs;cases zs
      | some a=>rw[q] at zs;rw[show a=some W.h from zs]
     refine{W.h,ei,Z,st,R,ok,za6 (za2.mp w) (λl st1 q vs H1 e ok1 z=>?_) λx st1 q=>q};show spS W c.K F ((W.h::vs)++[]) H1 Q E;rw[Bh0];refine{l,vs,st1,rfl,z,ok1,?_};cases q':F l st1 with
     | ok d st2=>
       rw[q'] at q;intro v H' s okH n;exact q v H' (e.trans s) okH ((New.val (R.ext ok e) n g).back e ok1)
     | exc x u=>rw[q'] at q;exact q.elim
     | bad=>rw[q'] at q;exact q.elim
end
inductive Fl where
 | nx (Z:Rho) | rt (d:D) | bk (Z:Rho) | ct (Z:Rho)
noncomputable abbrev FnS(S:Type):=Rho->S->Res S Fl
structure Frm{S:Type}{W:Wd S}(c:Dx W)(H:Hp)(Y:St)(Z:Rho)(H':Hp)(Y':St)(Z':Rho):Prop where
 keep:∀b o,H b=some o->¬W.mv b->¬Ow Y Z b->H' b=some o
 own:∀b o,H b=some o->¬W.mv b->Ow Y' Z' b->Ow Y Z b
instance F0{S:Type}{W:Wd S}(c:Dx W)(H':Hp):Prop:=∀b o,c.H0 b=some o->¬W.mv b->H' b=some o
instance Nx{S:Type}{W:Wd S}(c:Dx W)(Q:St->Hp->Prop)(Y:St)(Z:Rho)(H:Hp)(Z':Rho)(st':S):Prop:=∀Y' H',Frm c H Y Z H' Y' Z'->W.ok st' H'->Rep c H' Y' Z'->Q Y' H'
instance Rt{S:Type}{W:Wd S}(c:Dx W)(Q:VK)(d:D)(st':S):Prop:=∀v H',F0 c H'->W.ok st' H'->Is c.K (λb=>¬W.mv b/\c.H0 b=none) H' d v->Q v H'
instance vh1{S:Type}{W:Wd S}(c:Dx W)(D:vn9)(Y:St)(Z:Rho)(H:Hp)(fl:Fl)(st':S):Prop:=match fl with
 | .nx Z'=>Nx c D.nx Y Z H Z' st'
 | .bk Z'=>Nx c D.bk Y Z H Z' st'
 | .ct Z'=>Nx c D.ct Y Z H Z' st'
 | .rt d=>Rt c D.rt d st'
instance vo8{S:Type}{W:Wd S}(c:Dx W)(x:Exn)(st':S):Prop:=∀H',F0 c H'->W.ok st' H'->c.Ex x st' H'
instance tS{S:Type}{W:Wd S}(c:Dx W)(F:FnS S):TS:=λD Y H=>∃Z st,Rep c H Y Z/\W.ok st H/\wpR (F Z st) (vh1 c D Y Z H) (vo8 c)
instance DS(X:Cx){S:Type}{W:Wd S}(c:Dx W)(s:Stmt)(F:FnS S):Prop:=PS X s (tS c F)
instance DSs(X:Cx){S:Type}{W:Wd S}(c:Dx W)(s:List Stmt)(F:FnS S):Prop:=PSs X s (tS c F)
section
variable{S:Type}{W:Wd S}{c:Dx W}{H H1 H2 H':Hp}{Y Y1 Y2 Y':St}{Z Z1 Z2 Z':Rho}{st st1:S}
def Frm.refl:Frm c H Y Z H Y Z:={λ_ _ h _ _=>h,λ_ _ _ _ h=>h}
def Frm.trans(a:Frm c H Y Z H1 Y1 Z1)(b:Frm c H1 Y1 Z1 H2 Y2 Z2):Frm c H Y Z H2 Y2 Z2 where
 keep:=λx o h m w=>b.keep x o (a.keep x o h m w) m λw1=>w (a.own x o h m w1)
 own:=λx o h m w=>by
  by_cases w0:Ow Y Z x
  ·exact w0
  ·exact a.own x o h m (b.own x o (a.keep x o h m w0) m w)
def Ext.frm(e:Ext W H H'):Frm c H Y Z H' Y Z:={λb o h m _=>e b o h m,λ_ _ _ _ h=>h}
def Ext.f0(R:Rep c H Y Z)(e:Ext W H H'):F0 c H':=λb o h n=>e b o (R.frame b o h n) n
def Nx.from{Q:St->Hp->Prop}(h:Nx c Q Y Z H Z' st)(f:Frm c H Y Z H1 Y1 Z1):Nx c Q Y1 Z1 H1 Z' st:=λY' H' g ok R=>h Y' H' (f.trans g) ok R
theorem vh1.from{D:vn9}{fl:Fl}(h:vh1 c D Y Z H fl st)(f:Frm c H Y Z H1 Y1 Z1):vh1 c D Y1 Z1 H1 fl st:=by
 cases fl with
 | nx r=>exact Nx.from h f
 | bk r=>exact Nx.from h f
 | ct r=>exact Nx.from h f
 | rt d=>exact h
def Frm.keepT(R:Rep c H Y Z)(ok:W.ok st H)(f:Frm c H Y Z H' Y' Z'):vd1 (Av c Y Z) (Av c Y' Z') H H':=
 zh7 (λb o h t=>f.keep b o h (λm=>by
  obtain⟨o',h',n1,n2⟩:=W.live st H b ok m;rw[h] at h';cases h';rcases t with⟨u,z⟩ | ⟨ob,u,z⟩
  ·exact n1 u z
  ·exact n2 ob u z) λw=>by
  obtain⟨_,_,o',h',n1,n2⟩:=R.owOk w;rw[h] at h';cases h';rcases t with⟨u,z⟩ | ⟨ob,u,z⟩
  ·exact n1 u z
  ·exact n2 ob u z) λb o a h=>{{a.1,λw=>a.2.1 (f.own b o h a.1 w),a.2.2},f.keep b o h a.1 a.2.1}
def zq3{g:Gr}{f:Fn S}{k:D->FnS S}{D:vn9}(h:tS c (λZ st=>(f Z st).bind λd st1=>k d Z st1) D Y H) :
 tD c g f Y H λv H1=>∃Z d st0 st1,Rep c H Y Z/\W.ok st0 H/\Rep c H1 Y Z/\W.ok st1 H1/\Ext W H H1/\Val c g Y Z H H1 d v/\wpR (k d Z st1) (vh1 c D Y Z H) (vo8 c):=by
 obtain⟨Z,st,R,ok,w⟩:=h;refine{Z,st,R,ok,za6 (za2.mp w) (λd st1 q v H1 e ok1 z=>?_) λx st1 q H1 e ok1=>q H1 (e.f0 R) ok1};exact{Z,d,st,st1,R,ok,R.ext ok e,ok1,e,z,q}
def wm2{f:FnT S}{k:Bool->FnS S}{D:vn9}(h:tS c (λZ st=>(f Z st).bind λd st1=>k d Z st1) D Y H) :
 tDT c f Y H λb H1=>∃Z st1,Rep c H1 Y Z/\W.ok st1 H1/\wpR (k b Z st1) (vh1 c D Y Z H1) (vo8 c):=by
 obtain⟨Z,st,R,ok,w⟩:=h;refine{Z,st,R,ok,za6 (za2.mp w) (λd st1 q H1 e ok1=>?_) λx st1 q H1 e ok1=>q H1 (e.f0 R) ok1};exact{Z,st1,R.ext ok e,ok1,za6 q (λfl st2 q=>q.from e.frm) λx st2 q=>q}
end
section
variable{X:Cx}{S:Type}{W:Wd S}{c:Dx W}
instance uj1(S:Type):FnS S:=λZ st=>.ok (.nx Z) st
instance vt1(S:Type)(F G:FnS S):FnS S:=λZ st=>(F Z st).bind λfl st1=>match fl with
 | .nx Z1=>G Z1 st1
 | .rt d=>.ok (.rt d) st1
 | .bk r=>.ok (.bk r) st1
 | .ct r=>.ok (.ct r) st1
def zc5:DSs X c [] (uj1 S):=yy0.imp λD Y H ⟨Z,st,R,ok,w⟩=>w Y H Frm.refl ok R
def za4{s:Stmt}{r:List Stmt}{F G:FnS S}(h1:DS X c s F)(h2:DSs X c r G):DSs X c (s::r) (vt1 S F G):=
 (zg9 h1 h2).imp λD Y H hI8=>by
  obtain⟨Z,st,R,ok,w⟩:=hI8;refine{Z,st,R,ok,za6 (za2.mp w) (λfl st1 q=>?_) λx st1 q=>q};cases fl with
  | nx Z1=>exact λY1 H1 f ok1 R1=>{Z1,st1,R1,ok1,za6 q (λfl st2 q=>q.from f) λx st2 q=>q}
  | rt d=>exact q
  | bk r=>exact q
  | ct r=>exact q
def za7{s:Stmt}{F:FnS S}(h1:DS X c s F):DSs X c [s] F:=yd4 h1
instance vt4(S:Type)(f:Fn S):FnS S:=λZ st=>(f Z st).bind λ_ st1=>.ok (.nx Z) st1
def wr2{g:Gr}{e:Expr}{f:Fn S}{pos:Pos}(h:DE X c g e f)(hs:autoParam (swapsWith e none pos.line X.env=pure false) uR):DS X c (.Expr e pos) (vt4 S f):=
 (xq1 h hs).imp λD Y H q=>zf2 (zq3 (g:=g) (k:=λ_ Z st1=>.ok (.nx Z) st1) q) λv H1 ⟨Z,d,st0,st1,R,ok,R1,ok1,e,z,w⟩=>w Y H1 e.frm ok1 R1
instance D.flat:D->Bool
 | .lst l=>D.immL l
 | .dct _ l=>D.immL l
 | _=>false
instance ud9(S:Type)(f:Fn S):FnS S:=λZ st=>(f Z st).bind λd st1=>if d.imm=true\/d.flat=true then .ok (.rt d) st1 else .bad
theorem yo1{K:PySem.W.Frag}{A A':Addr->Prop}{H:Hp}{d:D}{a:Addr}(h:Is K A H d (.ref a))(m:d.flat=true)(n:A' a):Is K A' H d (.ref a):=by
 cases d with
 | lst l=>
   obtain⟨b,vs,e,_,e2,i⟩:=Is.lst_iff.mp h;cases e;exact Is.lst n e2 (IsL.ofImm m i)
 | dct ks l=>
   obtain⟨b,vs,e,_,i,q⟩:=Is.dct_iff.mp h;cases e;exact Is.dct_iff.mpr {a,vs,rfl,n,IsL.ofImm m i,q}
 | _=>simp[D.flat] at m
theorem yo0{K:PySem.W.Frag}{A:Addr->Prop}{H:Hp}{d:D}{v:V}(h:Is K A H d v)(m:d.flat=true):∃a,v=.ref a/\d.mut=true/\A a/\∃o,H a=some o:=by
 cases d with
 | lst l=>
   obtain⟨b,vs,e,n,e2,i⟩:=Is.lst_iff.mp h;exact{b,e,rfl,n,_,e2}
 | dct ks l=>
   obtain⟨b,vs,e,n,i,q⟩:=Is.dct_iff.mp h;rcases q with⟨_,_,_,q⟩ | ⟨_,_,_,q⟩<;>exact{b,e,rfl,n,_,q}
 | _=>simp[D.flat] at m
theorem Rep.none0{H:Hp}{Y:St}{Z:Rho}{st:S}(R:Rep c H Y Z)(ok:W.ok st H){a:Addr}(h:H a=none):c.H0 a=none:=by
 cases q:c.H0 a with
 | none=>rfl
 | some o=>rw[R.frame a o q (zl4 ok h)] at h;cases h
def zd2{e:Expr}{f:Fn S}{pos:Pos}(h:DE X c .F e f):DS X c (.Return (some e) pos) (ud9 S f):=
 (yi5 h).imp λD Y H q=>zf2 (zq3 (g:=.F) q) λv H1 hI9=>by
  obtain⟨Z,d,st0,st1,R,ok,R1,ok1,e,z,w⟩:=hI9;by_cases m:d.imm=true\/d.flat=true
  ·rw[if_pos m] at w
   refine w v H1 (e.f0 R) ok1 ?_;rcases m with m | m
   ·exact Is.ofImm m z.1
   ·obtain⟨a,rfl,mu,av,_⟩:=yo0 z.1 m
    exact yo1 z.1 m {av.1,R.none0 ok (z.2 a rfl mu)}
  ·rw[if_neg m] at w;exact w.elim
instance own?(Z:Rho)(i:Nat):Option D:=match Z[i]? with
 | some (.own d)=>if d.flat=true then some d else none
 | some (.bor d)=>if d.imm=true then some d else none
 | _=>none
instance vt2(S:Type)(i:Nat):FnS S:=λZ st=>(vd2 (own? Z i) st).bind λd st1=>.ok (.rt d) st1
open H in
def zs0{i:Nat}{x:Str}{p pos:Pos}(h:PE X (.Name x p) (vj0 i)):DS X c (.Return (some (.Name x p)) pos) (vt2 S i):=
 (yi5 h).imp λD Y H hI10=>by
  obtain⟨Z,st,R,ok,w⟩:=hI10;obtain⟨d,e,q⟩:=za9.mp (za2.mp w);have jn:∀{o:Option (Option V)} {v:V},o.join=some v->o=some (some v):=λ{o v} e=>by cases o with
   | none=>cases e
   | some a=>rw[show a=some v from e]
  unfold own? at e;cases hs:Z[i]? with
  | none=>rw[hs] at e;cases e
  | some s=>
    rw[hs] at e;have z:=R.slot i s hs;cases s with
    | no=>cases e
    | hnd=>cases e
    | bor d'=>
      have e:(if d'.imm=true then some d' else none)=some d:=e;split at e
      ·rename_i m
       cases e;obtain⟨v,e1,i1⟩:=z;exact{v,jn e1,q v H (λb o h n=>R.frame b o h n) ok (Is.ofImm m i1)}
      ·cases e
    | own d'=>
      have e:(if d'.flat=true then some d' else none)=some d:=e;split at e
      ·rename_i m
       cases e;obtain⟨a,e1,n,f,t⟩:=z;have tt:Is c.K (λb=>¬W.mv b) H d (.ref a):=(t.mono (A':=λb=>¬W.mv b) {λ_ _ z _=>z,λb o a z=>⟨a.1,z⟩} λo z=>z).isTop n.1;exact{_,jn e1,q _ H (λb o h n=>R.frame b o h n) ok (yo1 tt m ⟨n.1,f⟩)}
      ·cases e
instance sIf(S:Type)(t:FnT S)(F G:FnS S):FnS S:=λZ st=>(t Z st).bind λb st1=>if b=true then F Z st1 else G Z st1
open H in
def vc9{e:Expr}{a b:List Stmt}{pos:Pos}{t:FnT S}{F G:FnS S}(h:DT X c e t)(ha:DSs X c a F)(hb:DSs X c b G):DS X c (.If e a b pos) (sIf S t F G):=
 (vt6 h ha hb).imp λD Y H q=>by
  obtain⟨Z,st,R,ok,w⟩:=wm2 (k:=λb=>if b=true then F else G) (by
   obtain⟨Z,st,R,ok,w⟩:=q;refine{Z,st,R,ok,?_};have e:sIf S t F G Z st=(t Z st).bind λd st1=>(if d=true then F else G) Z st1:=by
    unfold sIf;congr;funext d st1;cases d<;>rfl
   rw[e] at w;exact w)
  refine{Z,st,R,ok,za6 w (λb st1 q H1 e ok1=>?_) λx st1 q=>q};obtain⟨Z1,st2,R1,ok2,w1⟩:=q H1 e ok1;cases b with
  | true=>exact⟨Z1,st2,R1,ok2,w1⟩
  | false=>exact⟨Z1,st2,R1,ok2,w1⟩
end
section
variable{X:Cx}{S:Type}{W:Wd S}{c:Dx W}{H H1 H':Hp}{Y Y':St}{Z Z':Rho}{st:S}{i:Nat}{d:D}{v:V}
def zb0{α:Type}{l:List α}{i j:Nat}{a b:α}(h:(l.set i a)[j]?=some b):(j=i/\b=a)\/(j≠i/\l[j]?=some b):=by
 by_cases e:j=i
 ·subst e
  rw[List.getElem?_set_self'] at h;cases q:l[j]? with
  | none=>rw[q] at h;cases h
  | some x=>rw[q] at h;exact .inl {rfl,(Option.some.inj h).symm}
 ·rw[Ba0 (Ne.symm e)] at h
  exact .inr ⟨e,h⟩
theorem ze1(e:o.join=some v):o=some (some v):=by
 cases o with
 | none=>cases e
 | some a=>rw[show a=some v from e]
def yi8{b:Addr}(h:Ow (Y.set i (some v)) (Z.set i (.bor d)) b):Ow Y Z b:=by
 obtain⟨j,e,h1,h2⟩:=h;rcases zb0 h1 with⟨_,z⟩ | ⟨n,z⟩
 ·cases z
 ·rcases zb0 h2 with⟨m,_⟩ | ⟨_,y⟩
  ·exact absurd m n
  ·exact⟨j,e,z,y⟩
def Rep.setB(R:Rep c H Y Z)(hi:i<Z.length)(h:Is c.K (Av c Y Z) H d v):Rep c H (Y.set i (some v)) (Z.set i (.bor d)) where
 len:=by rw[Bx0,Bx0];exact R.len
 frame:=R.frame
 avl:=R.avl
 slot:=λj s hs=>by
  have k:vd1 (Av c Y Z) (Av c (Y.set i (some v)) (Z.set i (.bor d))) H H:={λ_ _ z _=>z,λb o a z=>{{a.1,λw=>a.2.1 (yi8 w),a.2.2},z}};rcases zb0 hs with⟨e,z⟩ | ⟨n,z⟩
  ·subst z
   subst e;refine{v,?_,Is.mono k h};rw[Cx0 (by rw[R.len];exact hi)];rfl
  ·rw[Ba0 (Ne.symm n)]
   have q:=R.slot j s z;cases s with
   | no=>trivial
   | bor e=>obtain⟨v',e1,i1⟩:=q;exact{v',e1,i1.mono k}
   | own e=>obtain⟨a,e1,n1,f,t⟩:=q;exact{a,e1,n1,f,t.mono k λo z=>z}
   | hnd=>exact q
 uniq:=λj j' a e e' h1 h2 h3 h4=>by
  rcases zb0 h1 with⟨_,z⟩ | ⟨n,z⟩
  ·cases z
  ·rcases zb0 h2 with⟨_,z'⟩ | ⟨n',z'⟩
   ·cases z'
   ·rw[Ba0 (Ne.symm n)] at h3
    rw[Ba0 (Ne.symm n')] at h4;exact R.uniq j j' a e e' z z' h3 h4
def ze8:Frm c H Y Z H (Y.set i (some v)) (Z.set i (.bor d)):={λ_ _ h _ _=>h,λ_ _ _ _ w=>yi8 w}
def yi7{a b:Addr}(h:Ow (Y.set i (some (.ref a))) (Z.set i (.own d)) b):Ow Y Z b\/b=a:=by
 obtain⟨j,e,h1,h2⟩:=h;rcases zb0 h1 with⟨m,_⟩ | ⟨n,z⟩
 ·rcases zb0 h2 with⟨_,y⟩ | ⟨n,_⟩
  ·cases y;exact .inr rfl
  ·exact absurd m n
 ·rcases zb0 h2 with⟨m,_⟩ | ⟨_,y⟩
  ·exact absurd m n
  ·exact .inl ⟨j,e,z,y⟩
def Rep.setO{a:Addr}(R:Rep c H Y Z)(ok:W.ok st H)(x:Ext W H H1){st1:S}(ok1:W.ok st1 H1)(hi:i<Z.length)(h:Is c.K (Av c Y Z) H1 d (.ref a))(m:d.flat=true)(hn:H a=none) :
 Rep c H1 (Y.set i (some (.ref a))) (Z.set i (.own d))/\Frm c H Y Z H1 (Y.set i (some (.ref a))) (Z.set i (.own d)):=by
 have hmv:¬W.mv a:=zl4 ok hn;have k:vd1 (Av c Y Z) (Av c (Y.set i (some (.ref a))) (Z.set i (.own d))) H H1:=zh7 (λb o e t=>x b o e λmm=>by
  obtain⟨o',h',n1,n2⟩:=W.live st H b ok mm;rw[e] at h';cases h';rcases t with⟨u,z⟩ | ⟨ob,u,z⟩
  ·exact n1 u z
  ·exact n2 ob u z) λb o av e=>{{av.1,(λw=>by
   rcases yi7 w with w | w
   ·exact av.2.1 w
   ·subst w;rw[hn] at e;cases e),av.2.2},x b o e av.1}
 refine{{by rw[Bx0,Bx0];exact R.len,λb o e n=>x b o (R.frame b o e n) n,λj s hs=>?_,(λb h=>let ⟨n,z,o,h',q⟩:=R.avl b h;{n,z,o,x b o h' n,q}),λj j' b e e' h1 h2 h3 h4=>?_},{λb o e n w=>x b o e n,λb o e n w=>?_}}
 ·rcases zb0 hs with⟨e,z⟩ | ⟨n,z⟩
  ·subst z
   subst e;refine{a,by rw[Cx0 (by rw[R.len];exact hi)];rfl,{hmv,λw=>by obtain⟨_,_,o,h',_⟩:=R.avl a w;rw[hn] at h';cases h'},R.none0 ok hn,?_};cases d with
   | lst l=>
     obtain⟨b,vs,e,_,e2,i1⟩:=Is.lst_iff.mp h;cases e;exact{vs,e2,IsL.ofImm m i1}
   | dct ks l=>
     obtain⟨b,vs,e,_,i1,q⟩:=Is.dct_iff.mp h;cases e;exact{vs,IsL.ofImm m i1,q}
   | _=>simp[D.flat] at m
  ·rw[Ba0 (Ne.symm n)]
   have q:=R.slot j s z;cases s with
   | no=>trivial
   | bor e=>obtain⟨v',e1,i1⟩:=q;exact{v',e1,i1.mono k}
   | own e=>obtain⟨b,e1,n1,f,t⟩:=q;exact{b,e1,n1,f,t.mono k λo z=>x b o z n1.1}
   | hnd=>exact q
 ·have fresh:∀(j:Nat) (e:D),Z[j]?=some (.own e)->Y[j]?=some (some (.ref a))->False:=λj e h1 h2=>by
   obtain⟨_,_,o,h',_⟩:=R.owOk ⟨j,e,h1,h2⟩;rw[hn] at h';cases h'
  rcases zb0 h1 with⟨m1,z⟩ | ⟨n,z⟩
  ·rcases zb0 h2 with⟨m2,z'⟩ | ⟨n',z'⟩
   ·rw[m1,m2]
   ·rw[Ba0 (Ne.symm n')] at h4
    rcases zb0 h3 with⟨_,y⟩ | ⟨n3,_⟩
    ·cases y;exact(fresh j' e' z' h4).elim
    ·exact absurd m1 n3
  ·rcases zb0 h2 with⟨m2,z'⟩ | ⟨n',z'⟩
   ·rw[Ba0 (Ne.symm n)] at h3
    rcases zb0 h4 with⟨_,y⟩ | ⟨n3,_⟩
    ·cases y;exact(fresh j e z h3).elim
    ·exact absurd m2 n3
   ·rw[Ba0 (Ne.symm n)] at h3
    rw[Ba0 (Ne.symm n')] at h4;exact R.uniq j j' b e e' z z' h3 h4
 ·rcases yi7 w with w | w
  ·exact w
  ·subst w;rw[hn] at e;cases e
instance put(Z:Rho)(i:Nat)(d:D):Option Rho:=if i<Z.length then some (Z.set i (.bor d)) else none
instance putN(Z:Rho)(i:Nat)(d:D):Option Rho:=if i<Z.length then some (Z.set i (if d.flat=true then .own d else .bor d)) else none
instance vy2(S:Type)(i:Nat)(f:Fn S):FnS S:=λZ st=>(f Z st).bind λd st1=>(vd2 (putN Z i d) st1).bind λZ' st2=>.ok (.nx Z') st2
instance vq6(S:Type)(i:Nat)(f:Fn S):FnS S:=λZ st=>(f Z st).bind λd st1=>(vd2 (put Z i d) st1).bind λZ' st2=>.ok (.nx Z') st2
open H in
def wh2{f:Fn S}{D:vn9}(h:tS c (vy2 S i f) D Y H):vw7 (tD c .F f) (vn4 i) D Y H:=
 zf2 (zq3 (g:=.F) h) λv H1 hI11=>by
  obtain⟨Z,d,st0,st1,R,ok,R1,ok1,e,z,w⟩:=hI11;obtain⟨Z',e1,w⟩:=za9.mp (za2.mp w);unfold putN at e1;split at e1
  ·rename_i hi
   by_cases m:d.flat=true
   ·rw[if_pos m] at e1
    cases e1;obtain⟨a,rfl,mu,av,_⟩:=yo0 z.1 m;obtain⟨R2,F2⟩:=R.setO (i:=i) ok e ok1 hi z.1 m (z.2 a rfl mu);exact w (Y.set i (some (.ref a))) H1 F2 ok1 R2
   ·rw[if_neg m] at e1
    cases e1;exact w _ H1 (e.frm.trans ze8) ok1 (R1.setB hi z.1)
  ·cases e1
open H in
def wm3{f:Fn S}{D:vn9}(h:tS c (vq6 S i f) D Y H):vw7 (tD c .B f) (vn4 i) D Y H:=
 zf2 (zq3 (g:=.B) h) λv H1 hI12=>by
  obtain⟨Z,d,st0,st1,R,ok,R1,ok1,e,z,w⟩:=hI12;obtain⟨Z',e1,w⟩:=za9.mp (za2.mp w);unfold put at e1;split at e1
  ·rename_i hi
   cases e1;exact w _ H1 (e.frm.trans ze8) ok1 (R1.setB hi z)
  ·cases e1
def zc3{x:Str}{e:Expr}{f:Fn S}{p pos:Pos}(hN:X.N.Nodup)(hi:X.N[i]?=some x)(hx:Loc X.env.scope x)(he:DE X c .F e f)(hs:autoParam (swapsWith e (some (.Name x p)) pos.line X.env=pure false) uR)(hf:X.fn x=true\/X.env.scope.names.lookup x=some .local:=by first | exact .inl rfl | exact .inr rfl | assumption) :
 DS X c (.Assign [.Name x p] e pos) (vy2 S i f):=(zr2 hN hi hx he hs hf).imp λD Y H q=>wh2 q
def xy4{x:Str}(hN:X.N.Nodup)(hi:X.N[i]?=some x)(hx:Loc X.env.scope x)(he:DE X c .B e f)(hs:autoParam (swapsWith e (some (.Name x p)) pos.line X.env=pure false) uR)(hf:X.fn x=true\/X.env.scope.names.lookup x=some .local:=by first | exact .inl rfl | exact .inr rfl | assumption) :
 DS X c (.Assign [.Name x p] e pos) (vq6 S i f):=(zr2 hN hi hx he hs hf).imp λD Y H q=>wm3 q
noncomputable abbrev FnG:=D->Rho->Option Rho
noncomputable abbrev vs4:=List D->Rho->Option Rho
instance tG{S:Type}{W:Wd S}(c:Dx W)(G:FnG):TG:=λv Y H Q=>∃Z d Z' st,Rep c H Y Z/\W.ok st H/\Is c.K (Av c Y Z) H d v/\G d Z=some Z'/\∀Y',Rep c H Y' Z'->Frm c H Y Z H Y' Z'->Q Y' H
instance tGs{S:Type}{W:Wd S}(c:Dx W)(G:vs4):TGs:=λvs Y H Q=>∃Z l Z' st,Rep c H Y Z/\W.ok st H/\IsL c.K (Av c Y Z) H l vs/\G l Z=some Z'/\∀Y',Rep c H Y' Z'->Frm c H Y Z H Y' Z'->Q Y' H
instance DG(X:Cx){S:Type}{W:Wd S}(c:Dx W)(e:Expr)(G:FnG):Prop:=PG X e (tG c G)
instance DGs(X:Cx){S:Type}{W:Wd S}(c:Dx W)(e:List Expr)(G:vs4):Prop:=PGs X e (tGs c G)
def PG.imp(h:PG X e t)(i:∀v Y H Q,t' v Y H Q->t v Y H Q):PG X e t':=λA3 s Y H v u Q I r q=>h A3 s Y H v u Q I r (i v Y H Q q)
def PGs.imp(h:PGs X e t)(i:∀v Y H Q,t' v Y H Q->t v Y H Q):PGs X e t':=λA3 s Y H v u Q I r q=>h A3 s Y H v u Q I r (i v Y H Q q)
instance gN(i:Nat):FnG:=λd Z=>put Z i d
open H in
def zb4{x:Str}{pos:Pos}(hN:X.N.Nodup)(hi:X.N[i]?=some x)(hx:Loc X.env.scope x)(hf:X.fn x=true\/X.env.scope.names.lookup x=some .local:=by first | exact .inl rfl | exact .inr rfl | assumption):DG X c (.Name x pos) (gN i):=
 (ym4 hN hi hx hf).imp λv Y H Q hI13=>by
  obtain⟨Z,d,Z',st,R,ok,z,e,q⟩:=hI13;unfold gN put at e;split at e
  ·rename_i h
   cases e;exact q _ (R.setB h z) ze8
  ·cases e
instance gsNil:vs4:=λl Z=>match l with
 | []=>some Z
 | _=>none
instance gsCons(G:FnG)(Gs:vs4):vs4:=λl Z=>match l with
 | d::r=>(G d Z).bind λZ1=>Gs r Z1
 | []=>none
theorem zj2:DGs X c [] gsNil:=yy3.imp λv Y H Q hI14=>by
 obtain⟨Z,l,Z',st,R,ok,z,e,q⟩:=hI14;cases l with
 | nil=>cases e;exact{IsL.nil.mp z,q Y R Frm.refl}
 | cons _ _=>cases e
def zc6{e:Expr}{es:List Expr}{G:FnG}{Gs:vs4}(h1:DG X c e G)(h2:DGs X c es Gs)(hs:autoParam ((assignEach (e::es) X.env).map (·.2)=assign e X.env::(assignEach es X.env).map (·.2)) uR):DGs X c (e::es) (gsCons G Gs):=
 (zv9 h1 h2 hs).imp λv Y H Q hI15=>by
  obtain⟨Z,l,Z',st,R,ok,z,e,q⟩:=hI15;cases l with
  | nil=>cases e
  | cons d r=>
    obtain⟨v1,vs,e1,i1,j1⟩:=IsL.cons.mp z;have e:(G d Z).bind (λZ1=>Gs r Z1)=some Z':=e;cases q1:G d Z with
    | none=>rw[q1] at e;cases e
    | some Z1=>
      rw[q1] at e;refine{v1,vs,e1,Z,d,Z1,st,R,ok,i1,q1,λY1 R1 F1=>?_};exact{Z1,r,Z',st,R1,ok,j1.mono (F1.keepT R ok),e,λY2 R2 F2=>q Y2 R2 (F1.trans F2)}
instance gT(n:Nat)(Gs:vs4):FnG:=λd Z=>match d with
 | .tup l=>if l.length=n then Gs l Z else none
 | _=>none
open H in
def zo2{es:List Expr}{k:Nat}{pos:Pos}{Gs:vs4}{n:Nat}(hc:X.calm=true)(hK:c.K=X.K)(h:DGs X c es Gs)(hn:autoParam ((assignEach es X.env).length=n) uR)(hst:autoParam ((assignEach es X.env).findIdx? (·.1)=none) uR):DG X c (.Tuple es k pos) (gT n Gs):=
 (xq9 hc h hn hst).imp λv Y H Q hI16=>by
  obtain⟨Z,d,Z',st,R,ok,z,e,q⟩:=hI16;cases d with
  | tup l=>
    obtain⟨a,vs,e1,s1,j1⟩:=Is.tup_sq z;have e:(if l.length=n then Gs l Z else none)=some Z':=e;split at e
    ·rename_i hl
     exact{a,vs,e1,by rw[<-hK];exact s1,by rw[<-j1.length];exact hl,Z,l,Z',st,R,ok,j1,e,q}
    ·cases e
  | _=>cases e
instance ue2(S:Type)(G:FnG)(f:Fn S):FnS S:=λZ st=>(f Z st).bind λd st1=>(vd2 (G d Z) st1).bind λZ' st2=>.ok (.nx Z') st2
def yg1{tg e:Expr}{f:Fn S}{G:FnG}{pos:Pos}(he:DE X c .B e f)(hg:DG X c tg G)(hs:autoParam (swapsWithSole [tg] e pos.line X.env=pure false) uR)(hw:autoParam (swappedStores [tg] e X.env=pure none) uR)(h1:autoParam ((assignEach [tg] X.env).map (·.2)=[assign tg X.env]) uR):DS X c (.Assign [tg] e pos) (ue2 S G f):=
 (xd1 he hg hs hw h1).imp λD Y H q=>zf2 (zq3 (g:=.B) q) λv H1 hI17=>by
  obtain⟨Z,d,st0,st1,R,ok,R1,ok1,e,z,w⟩:=hI17;obtain⟨Z',e1,w⟩:=za9.mp (za2.mp w);exact{Z,d,Z',st1,R1,ok1,z,e1,λY' R' F'=>w Y' H1 (e.frm.trans F') ok1 R'}
end
instance xi7{S:Type}{W:Wd S}(c:Dx W)(Y:St)(Z:Rho)(H:Hp)(J:It)(l:List D):Prop:=∀(c':Dx W) (hK:c'.K=c.K) Y2 Z2 H2 (st2:S),vd1 (Av c Y Z) (Av c' Y2 Z2) H H2->Rep c' H2 Y2 Z2->W.ok st2 H2->∀i:Nat,
 (∀d,l[i]?=some d->J.go i H2/\∀x H3,J.yld i H2 x H3->vk5 H2 H3/\Is c.K (Av c' Y2 Z2) H3 d x)/\(l.length<=i->J.stop i H2)
noncomputable abbrev FnI(S:Type):=FnA S
instance tI{S:Type}{W:Wd S}(c:Dx W)(f:FnI S):TI:=λY H R=>∃Z st,Rep c H Y Z/\W.ok st H/\
 wpR (f Z st) (λl st'=>∀J H',Ext W H H'->W.ok st' H'->xi7 c Y Z H' J l->R J H') λx st'=>∀H',Ext W H H'->W.ok st' H'->c.Ex x st' H'
instance DI(X:Cx){S:Type}{W:Wd S}(c:Dx W)(tg iter:Expr)(f:FnI S):Prop:=PI X tg iter (tI c f)
def PI.imp(h:PI X tg e t)(i:∀Y H R,t' Y H R->t Y H R):PI X tg e t':=λA3 s Y H R I q=>h A3 s Y H R I (i Y H R q)
section
variable{X:Cx}{S:Type}{W:Wd S}{c:Dx W}{tg:Expr}
instance vp6(S:Type)(sel:D->Option (List D))(f:Fn S):FnI S:=λZ st=>(f Z st).bind λd st1=>vd2 (sel d) st1
instance D.tup?:D->Option (List D)
 | .tup l=>some l
 | _=>none
instance D.lst?:D->Option (List D)
 | .lst l=>some l
 | _=>none
def wj9(hK:c.K=X.K)(h:DE X c .B e f):DI X c tg e (vp6 S D.tup? f):=
 (wv6 h).imp λY H R hI18=>by
  obtain⟨Z,st,R0,ok,w⟩:=hI18;refine{Z,st,R0,ok,za6 (za2.mp w) (λd st1 q v H1 e ok1 z=>?_) λx st1 q=>q};obtain⟨l,e1,q⟩:=za9.mp q;cases d with
  | tup m=>
    cases e1;obtain⟨a,vs,ev,s0,i⟩:=Is.tup_iff.mp z;have s:SqT c.K H1 a vs:=.of s0;refine{a,ev,{vs,by rw[<-hK];exact s},q _ H1 e ok1 ?_};intro c' hK' Y2 Z2 H2 st2 k R2 ok2 j;have s2:SqT c.K H2 a vs:=.of (k.tup a vs s0);have i2:IsL c.K (Av c' Y2 Z2) H2 l vs:=i.mono k;refine{λd hd=>?_,λhl=>{vs,by rw[<-hK];exact s2,by rw[<-i2.length];exact hl}};obtain⟨v1,hv,iv⟩:=i2.get hd;exact{{vs,v1,by rw[<-hK];exact s2,hv},λx H3 hI19=>by
     obtain⟨e3,y⟩:=hI19;subst e3;have hx:=y vs (by rw[<-hK];exact s2);rw[hv] at hx;cases hx;exact{vk5.refl _,iv}}
  | _=>cases e1
def va3(hK:c.K=X.K)(h:DE X c .B e f):DI X c tg e (vp6 S D.lst? f):=
 (xq7 h).imp λY H R hI20=>by
  obtain⟨Z,st,R0,ok,w⟩:=hI20;refine{Z,st,R0,ok,za6 (za2.mp w) (λd st1 q v H1 e ok1 z=>?_) λx st1 q=>q};obtain⟨l,e1,q⟩:=za9.mp q;cases d with
  | lst m=>
    cases e1;obtain⟨a,vs,ev,n,s,i⟩:=Is.lst_iff.mp z;refine{a,ev,{vs,.of s},q _ H1 e ok1 ?_};intro c' hK' Y2 Z2 H2 st2 k R2 ok2 j;have s2:H2 a=some (.lst vs):=(k.nod a _ n s).2;have i2:IsL c.K (Av c' Y2 Z2) H2 l vs:=i.mono k;refine{λd hd=>?_,λhl=>{vs,.of s2,by rw[<-i2.length];exact hl}};obtain⟨v1,hv,iv⟩:=i2.get hd;exact{{vs,v1,.of s2,hv},λx H3 hI21=>by
     obtain⟨e3,y⟩:=hI21;subst e3;have hx:=y vs (.of s2);rw[hv] at hx;cases hx;exact{vk5.refl _,iv}}
  | _=>cases e1
instance zm0(lo:Int)(n:Nat):List D:=(List.range n).map λ(k:Nat)=>D.int (lo+(k:Int))
instance ym9:List D->Option (List D)
 | [.int j]=>if -(2 ^ 62)<=j/\j<2 ^ 62 then some (zm0 0 j.toNat) else none
 | _=>none
instance vk8(S:Type)(o:List D->Option (List D))(f:FnA S):FnI S:=λZ st=>(f Z st).bind λl st1=>vd2 (o l) st1
def xl6(lo:Int)(n:Nat):xi7 c Y Z H (Itr lo n) (zm0 lo n):=by
 intro c' hK' Y2 Z2 H2 st2 k R2 ok2 j;refine{λd hd=>?_,λhl=>?_}
 ·unfold zm0 at hd
  rw[Af0] at hd;cases q:(List.range n)[j]? with
  | none=>rw[q] at hd;cases hd
  | some m=>
    rw[q] at hd;cases hd;obtain⟨h1,h2⟩:=Ac0.mp q;rw[List.getElem_range] at h2;subst h2;rw[Bo0] at h1;exact{h1,λx H3 ⟨e3,e4⟩=>by subst e3 e4;exact{vk5.refl _,Is.int_iff.mpr rfl}}
 ·unfold zm0 at hl
  rw[Aa0,Bo0] at hl;exact hl
open H in
def zh9{a:Expr}{f:FnA S}{p pos:Pos}(hg:Gl X "range")(hm:X.mg "range" = none)(ha:DA X c [a] f)(hs:autoParam (starEach [a] X.env=[(false,eval a X.env)]) uR):DI X c tg (.Call (.Name "range" p) [a] [] pos) (vk8 S ym9 f):=
 (xq6 hg hm ha hs).imp λY H R hI22=>by
  obtain⟨Z,st,R0,ok,w⟩:=hI22;refine{Z,st,R0,ok,za6 (za2.mp w) (λl st1 q vs H1 e ok1 z=>?_) λx st1 q=>q};obtain⟨m,e1,q⟩:=za9.mp q;unfold ym9 at e1;split at e1
  ·rename_i j
   split at e1
   ·rename_i h
    cases e1;obtain⟨v,r,e2,i2,i3⟩:=IsL.cons.mp z;rw[IsL.nil.mp i3,Is.int_iff.mp i2] at e2;exact{j,e2,h.1,h.2,q _ H1 e ok1 (xl6 0 _)}
   ·cases e1
  ·cases e1
instance frz1(i:Nat)(Z:Rho):Rho:=match Z[i]? with
 | some (.own d)=>Z.set i (.bor d)
 | _=>Z
instance frz:List Nat->Rho->Rho
 | [],Z=>Z
 | i::r,Z=>frz r (frz1 i Z)
open H in
def Rep.frz1{H:Hp}{Y:St}{Z:Rho}{st:S}(i:Nat)(R:Rep c H Y Z)(ok:W.ok st H):Rep c H Y (frz1 i Z)/\Frm c H Y Z H Y (L2.frz1 i Z):=by
 unfold L2.frz1;split
 ·rename_i d hi
  obtain⟨a,e1,n,f,t⟩:=R.slot i _ hi;have e1':=ze1 e1;have hlt:i<Z.length:=(Ac0.mp hi).1;have sub:∀b,Ow Y (Z.set i (.bor d)) b->Ow Y Z b/\b≠a:=λb hI23=>by
   obtain⟨j,e,h1,h2⟩:=hI23;rcases zb0 h1 with⟨_,z⟩ | ⟨nj,z⟩
   ·cases z
   ·refine{⟨j,e,z,h2⟩,λq=>?_}
    subst q;exact nj (R.uniq j i b e d z hi h2 e1')
  have k:vd1 (Av c Y Z) (Av c Y (Z.set i (.bor d))) H H:={λ_ _ z _=>z,λb o a z=>{{a.1,λw=>a.2.1 (sub b w).1,a.2.2},z}};refine{{by rw[Bx0];exact R.len,R.frame,λj s hs=>?_,R.avl,λj j' b e e' h1 h2 h3 h4=>?_},{λb o h _ _=>h,λb o _ _ w=>(sub b w).1}}
  ·rcases zb0 hs with⟨ej,z⟩ | ⟨nj,z⟩
   ·subst z ej
    exact{_,e1,(t.mono k λo z=>z).isTop {n.1,λw=>(sub a w).2 rfl,n.2}}
   ·have q:=R.slot j s z
    cases s with
    | no=>trivial
    | bor e=>obtain⟨v',e1,i1⟩:=q;exact{v',e1,i1.mono k}
    | own e=>obtain⟨b,e1,n1,f,t⟩:=q;exact{b,e1,n1,f,t.mono k λo z=>z}
    | hnd=>exact q
  ·rcases zb0 h1 with⟨_,z⟩ | ⟨_,z⟩
   ·cases z
   ·rcases zb0 h2 with⟨_,z'⟩ | ⟨_,z'⟩
    ·cases z'
    ·exact R.uniq j j' b e e' z z' h3 h4
 ·exact⟨R,Frm.refl⟩
theorem Rep.frz{H:Hp}{Y:St}{st:S}(ok:W.ok st H):∀(l:List Nat) {Z:Rho},Rep c H Y Z->Rep c H Y (L2.frz l Z)/\Frm c H Y Z H Y (L2.frz l Z)
 | [],Z,R=>⟨R,Frm.refl⟩
 | i::r,Z,R=>by
   obtain⟨R1,F1⟩:=R.frz1 i ok;obtain⟨R2,F2⟩:=Rep.frz ok r R1;exact{R2,F1.trans F2}
instance vn5(S:Type)(G:FnG)(B:FnS S):List D->FnS S
 | [],Z,st=>.ok (.nx Z) st
 | d::r,Z,st=>(vd2 (G d Z) st).bind λZ1 st1=>(B Z1 st1).bind λfl st2=>match fl with
   | .nx Z2=>vn5 S G B r Z2 st2
   | .ct Z2=>vn5 S G B r Z2 st2
   | .bk Z2=>.ok (.nx Z2) st2
   | .rt d=>.ok (.rt d) st2
instance ue0(S:Type)(fz:List Nat)(f:FnI S)(G:FnG)(B:FnS S):FnS S:=λZ st=>(f (frz fz Z) st).bind λl st1=>vn5 S G B l (frz fz Z) st1
def zh8{iter:Expr}{body:List Stmt}{f:FnI S}{G:FnG}{B:FnS S}{pos:Pos}(fz:List Nat)(hp:PassesOwn 'e' X.A X.env X.xe)(hc:X.calm=true)(hi:DI X c tg iter f)(hg:DG X c tg G)(hb:DSs X c body B)(hs:∀x,foldedSetIterable iter X.env x=pure x:=by intro _;rfl):DS X c (.For tg iter body [] pos) (ue0 S fz f G B):=
 (wv2 hp hc hi hg hb hs).imp λD Y H hI24=>by
  obtain⟨Z,st,R,ok,w⟩:=hI24;obtain⟨Rf,Ff⟩:=R.frz ok fz;refine{frz fz Z,st,Rf,ok,za6 (za2.mp w) (λl st1 q J H1 e ok1 it=>?_) λx st1 q H1 e ok1=>q H1 (e.f0 R) ok1};have R1:=Rf.ext ok e;refine{λi m Y2 H2=>∃Z2 st2,i<=l.length/\m=l.length-i/\Frm c H1 Y (frz fz Z) H2 Y2 Z2/\Rep c H2 Y2 Z2/\W.ok st2 H2/\wpR (vn5 S G B (l.drop i) Z2 st2) (vh1 c D Y2 Z2 H2) (vo8 c),{l.length,frz fz Z,st1,An0 _,rfl,Frm.refl,R1,ok1,?_},?_}
  ·rw[List.drop_zero]
   exact za6 q (λfl st2 q=>(q.from Ff).from e.frm) λx st2 q=>q
  ·rintro i m Y2 H2 ⟨Z2,st2,hle,rfl,F2,R2,ok2,w2⟩
   obtain⟨h1,h2⟩:=it c rfl Y2 Z2 H2 st2 (F2.keepT R1 ok1) R2 ok2 i;by_cases hlt:i<l.length
   ·have hd:l[i]?=some l[i]:=Ad0 hlt
    obtain⟨go,yl⟩:=h1 _ hd;rw[List.drop_eq_getElem_cons hlt] at w2;refine .inr {go,λY3 H3=>∃Z3 st3,Frm c H1 Y (frz fz Z) H3 Y3 Z3/\Rep c H3 Y3 Z3/\W.ok st3 H3/\wpR (vn5 S G B (l.drop (i+1)) Z3 st3) (vh1 c D Y3 Z3 H3) (vo8 c),λY3 H3 ⟨Z3,st3,F3,R3,ok3,w3⟩=>{l.length-(i+1),'o',Z3,st3,hlt,rfl,F3,R3,ok3,w3},λx H3 y=>?_};obtain⟨sm,iv⟩:=yl x H3 y;have ex:Ext W H2 H3:=sm.ext;have ok3:W.ok st2 H3:=W.stay st2 H2 H3 ok2 (λb o _ hb=>sm b o hb) λb o hb _=>sm b o hb
    have R3:=R2.ext ok2 ex;obtain⟨Z4,e4,w4⟩:=za9.mp (za2.mp w2);refine{Z2,_,Z4,st2,R3,ok3,iv,e4,λY4 R4 F4=>?_};have F24:Frm c H2 Y2 Z2 H3 Y4 Z4:=ex.frm.trans F4;refine{Z4,st2,R4,ok3,za6 (za2.mp w4) (λfl st5 q5=>?_) λx st5 q=>q};have nxt:∀Z5,wpR (vn5 S G B (l.drop (i+1)) Z5 st5) (vh1 c D Y2 Z2 H2) (vo8 c)->Nx c (λY3 H3=>∃Z3 st3,Frm c H1 Y (frz fz Z) H3 Y3 Z3/\Rep c H3 Y3 Z3/\W.ok st3 H3/\wpR (vn5 S G B (l.drop (i+1)) Z3 st3) (vh1 c D Y3 Z3 H3) (vo8 c)) Y4 Z4 H3 Z5 st5:=
     λZ5 q5 Y5 H5 F5 ok5 R5=>{Z5,st5,F2.trans (F24.trans F5),R5,ok5,za6 q5 (λfl st6 q=>q.from (F24.trans F5)) λx st6 q=>q}
    cases fl with
    | nx Z5=>exact nxt Z5 q5
    | ct Z5=>exact nxt Z5 q5
    | bk Z5=>exact λY5 H5 F5 ok5 R5=>q5 Y5 H5 (F24.trans F5) ok5 R5
    | rt d=>exact q5
   ·have e0:i=l.length:=by omega
    subst e0;rw[List.drop_length] at w2;exact .inl {h2 (Ae0 _),w2 Y2 H2 Frm.refl ok2 R2}
end
theorem ze7:∀{l m:List D},D.immL l=true->D.immL m=true->D.immL (l++m)=true
 | [],_,_,h=>h
 | d::l,m,h,k=>by
   have h':d.imm=true/\D.immL l=true:=by simpa [D.immL] using h
   show (d.imm&&D.immL (l++m))=true;rw[h'.1,ze7 h'.2 k];rfl
noncomputable abbrev Dx.avoid{S:Type}{W:Wd S}(c:Dx W)(av:Addr->Prop):Dx W:=⟨c.K,c.H0,c.Ex,av⟩
instance pickR(Z:Rho)(ixs:List (Option Nat)):Rho:=ixs.map λo=>match o with
 | some i=>(match Z[i]? with
   | some (.bor d)=>.bor d
   | some (.own d)=>.bor d
   | some .hnd=>.hnd
   | _=>.no)
 | none=>.no
section
variable{S:Type}{W:Wd S}{c:Dx W}{H H1:Hp}{Y:St}{Z:Rho}{st:S}
theorem yb5:¬Ow Y' (pickR Z ixs) b:=λhI25=>by
 obtain⟨j,d,h,_⟩:=hI25;unfold pickR at h;rw[Af0] at h;cases q:ixs[j]? with
 | none=>rw[q] at h;cases h
 | some o=>
   rw[q] at h;cases o with
   | none=>cases h
   | some i=>
     have h:(match Z[i]? with | some (.bor d)=>Sl.bor d | some (.own d)=>.bor d | some .hnd=>.hnd | _=>.no)=Sl.own d:=Option.some.inj h;split at h<;>cases h
def Rep.pick{D:Addr}(R:Rep c H Y Z)(ok:W.ok st H)(hD:H D=none)(ixs:List (Option Nat)):Rep (c.avoid λb=>c.av b\/b=D) (upd H D (.lst [])) (L2.pick Y ixs) (pickR Z ixs) where
 len:=by unfold L2.pick pickR;rw[Aa0,Aa0]
 frame:=λb o h n=>by
  have e:H b=some o:=R.frame b o h n;show upd H D _ b=some o;rw[za8 (zb5 e hD)];exact e
 uniq:=λi j a d e h1 _ _ _=>(yb5 (Y':=L2.pick Y ixs) (Z:=Z) (ixs:=ixs) (b:=a) {i,d,h1,by assumption}).elim
 avl:=λb h=>by
  rcases h with h | h
  ·obtain⟨n,z,o,h',q⟩:=R.avl b h
   exact{n,z,o,by show upd H D _ b=some o;rw[za8 (zb5 h' hD)];exact h',q}
  ·subst h
   exact{zl4 ok hD,R.none0 ok hD,_,zb3,(λu z=>by cases z),λob u z=>by cases z}
 slot:=λj s hs=>by
  unfold pickR at hs;rw[Af0] at hs;have kk:∀{A:Addr->Prop},(∀b,A b->¬W.mv b/\¬c.av b)->vd1 A (Av (c.avoid λb=>c.av b\/b=D) (L2.pick Y ixs) (pickR Z ixs)) H (upd H D (.lst [])):=λ{A} hA=>
   zh7 (λb o e _=>by rw[za8 (zb5 e hD)];exact e) λb o a e=>{{(hA b a).1,yb5,λw=>w.elim (hA b a).2 (λz=>by subst z;rw[hD] at e;cases e)},by rw[za8 (zb5 e hD)];exact e}
  cases q:ixs[j]? with
  | none=>rw[q] at hs;cases hs
  | some o=>
    rw[q] at hs;have ej:(L2.pick Y ixs)[j]?=(ixs[j]?).map (λo=>match o with | some i=>(Y[i]?).join | none=>none):=by
     unfold L2.pick;rw[Af0]
     all_goals rfl
    rw[ej,q];cases o with
    | none=>cases hs;trivial
    | some i=>
      have hs:(match Z[i]? with | some (.bor d)=>Sl.bor d | some (.own d)=>.bor d | some .hnd=>.hnd | _=>.no)=s:=Option.some.inj hs;show wk2 _ _ _ (Y[i]?).join s;cases h:Z[i]? with
      | none=>rw[h] at hs;cases hs;trivial
      | some s'=>
        rw[h] at hs;have z:=R.slot i s' h;cases s' with
        | no=>cases hs;trivial
        | hnd=>cases hs;exact z
        | bor d=>cases hs;obtain⟨v,e1,i1⟩:=z;exact{v,e1,i1.mono (kk λb a=>⟨a.1,a.2.2⟩)}
        | own d=>
          cases hs;obtain⟨a,e1,n,f,t⟩:=z;refine{.ref a,e1,?_};have t':=t.mono (c:=c) (kk λb a=>⟨a.1,a.2.2⟩) λo z=>by rw[za8 (zb5 z hD)];exact z
          obtain⟨o,ho,_⟩:=t.there;exact Top.isTop (c:=c) {n.1,yb5,λw=>w.elim n.2 (λz=>by subst z;rw[hD] at ho;cases ho)} t'
end
instance vi1(S:Type)(G:FnG)(t:FnT S)(e:Fn S):List D->List D->Rho->S->Res S (List D)
 | [],acc,_,st=>.ok acc st
 | d::r,acc,Z,st=>(vd2 (G d Z) st).bind λZ1 st1=>(t Z1 st1).bind λb st2=>if b=true then
    (e Z1 st2).bind λy st3=>if y.imm=true/\acc.length<sizeLine then vi1 S G t e r (acc++[y]) Z1 st3 else .bad
   else vi1 S G t e r acc Z1 st2
instance vn6(S:Type)(fz:List Nat)(ixs:List (Option Nat))(f:FnI S)(G:FnG)(t:FnT S)(e:Fn S):Fn S:=λZ st=>(f (frz fz Z) st).bind λl st1=>(vi1 S G t e l [] (pickR (frz fz Z) ixs) st1).bind λr st2=>.ok (.lst r) st2
instance DTs(X:Cx){S:Type}{W:Wd S}(c:Dx W)(ifs:List Expr)(t:FnT S):Prop:=PTs X ifs (tDT c t)
def PTs.imp(h:PTs X e t)(i:∀Y H Q,t' Y H Q->t Y H Q):PTs X e t':=λA3 s Y H Q I q=>h A3 s Y H Q I (i Y H Q q)
instance vz7(S:Type):FnT S:=λ_ st=>.ok true st
def zr9{X:Cx}{S:Type}{W:Wd S}{c:Dx W}:DTs X c [] (vz7 S):=wn6.imp λY H Q ⟨Z,st,R,ok,w⟩=>w H Ext.refl ok
def yo6{X:Cx}{S:Type}{W:Wd S}{c:Dx W}{e:Expr}{t:FnT S}(h:DT X c e t):DTs X c [e] t:=wn5 h
section
variable{X:Cx}{S:Type}{W:Wd S}{c:Dx W}{N':List Str}{ixs:List (Option Nat)}{scope:Scope}{tg iter elt:Expr}{ifs:List Expr}{f:FnI S}{G:FnG}{t:FnT S}{e:Fn S}{pos:Pos}{g:Gr}
instance gEx{S:Type}{W:Wd S}(c:Dx W)(G:FnG):TG:=λv Y H Q=>∃av,tG (c.avoid av) G v Y H Q
instance tEx{S:Type}{W:Wd S}(c:Dx W)(t:FnT S):TT:=λY H Q=>∃av,tDT (c.avoid av) t Y H Q
instance eEx{S:Type}{W:Wd S}(c:Dx W)(e:Fn S):TE:=λY H Q=>∃av,tD (c.avoid av) .R e Y H Q
instance ul1(S:Type){W:Wd S}(c:Dx W)(G:FnG)(t:FnT S)(e:Fn S)(l:List D)(A:Addr)(H1:Hp)(Pq:D->S->Prop)(Pe:Exn->S->Prop)(i:Nat)(Y2:St)(H2:Hp):Prop:=
 ∃Z2 st2 acc ys,Rep (c.avoid λb=>c.av b\/b=A) H2 Y2 Z2/\(∀b,¬Ow Y2 Z2 b)/\W.ok st2 H2/\Ext W H1 H2/\H2 A=some (.lst ys)/\D.immL acc=true/\IsL c.K (λ_=>False) H2 acc ys/\
  wpR ((vi1 S G t e (l.drop i) acc Z2 st2).bind λr st2=>.ok (.lst r) st2) Pq Pe
instance cPq(S:Type){W:Wd S}(c:Dx W)(g:Gr)(Y:St)(Z:Rho)(H:Hp)(Q:VK):D->S->Prop:=λd st'=>∀v H',Ext W H H'->W.ok st' H'->Val c g Y Z H H' d v->Q v H'
instance cPe(S:Type){W:Wd S}(c:Dx W)(H:Hp):Exn->S->Prop:=λx st'=>∀H',Ext W H H'->W.ok st' H'->c.Ex x st' H'
def xn8{fz:List Nat}(h:tD c g (vn6 S fz ixs f G t e) Y H Q):vs9 (tI c f) ixs (gEx c G) (tEx c t) (eEx c e) Y H Q:=by
 obtain⟨Z,st,R,ok,w⟩:=h;obtain⟨Rf,Ff⟩:=R.frz ok fz;refine{frz fz Z,st,Rf,ok,za6 (za2.mp w) (λl st1 q J H1 e1 ok1 it=>?_) λx st1 q=>q};have R1:=R.ext ok e1;have Rf1:=Rf.ext ok e1;intro A hA;have hAm:¬W.mv A:=zl4 ok1 hA;have hA0:H A=none:=e1.none ok1 hA;refine{λi m Y2 H2=>i<=l.length/\m=l.length-i/\ul1 S c G t e l A H1 (cPq S c g Y Z H Q) (cPe S c H) i Y2 H2,{l.length,An0 _,rfl,pickR (frz fz Z) ixs,st1,[],[],Rf1.pick ok1 hA ixs,λb=>yb5,zd9 ok1 hA,Ext.laid hA,zb3,rfl,IsL.nil.mpr rfl,by rw[List.drop_zero];exact q},?_};intro i m Y2 H2 hI;obtain⟨hle,rfl,Z2,st2,acc,ys,R2,no2,ok2,x2,hA2,im,il,w2⟩:=hI;have k2:vd1 (Av c Y (frz fz Z)) (Av (c.avoid λb=>c.av b\/b=A) Y2 Z2) H1 H2:=zh7 (λb o h tt=>x2 b o h λm=>by
  obtain⟨o',h',n1,n2⟩:=W.live st1 H1 b ok1 m;rw[h] at h';cases h';rcases tt with⟨u,z⟩ | ⟨ob,u,z⟩
  ·exact n1 u z
  ·exact n2 ob u z) λb o a h=>{{a.1,no2 b,λw=>w.elim a.2.2 (λz=>by subst z;rw[hA] at h;cases h)},x2 b o h a.1}
 obtain⟨h1,h2⟩:=it (c.avoid λb=>c.av b\/b=A) rfl Y2 Z2 H2 st2 k2 R2 ok2 i;by_cases hlt:i<l.length
 ·have hd:l[i]?=some l[i]:=Ad0 hlt
  obtain⟨go,yl⟩:=h1 _ hd;rw[List.drop_eq_getElem_cons hlt] at w2;refine .inr {go,λY3 H3=>ul1 S c G t e l A H1 (cPq S c g Y Z H Q) (cPe S c H) (i+1) Y3 H3,λY3 H3 hh=>{l.length-(i+1),'o',hlt,rfl,hh},λx H3 y=>?_};obtain⟨sm,iv⟩:=yl x H3 y;have ex:Ext W H2 H3:=sm.ext;have ok3:W.ok st2 H3:=W.stay st2 H2 H3 ok2 (λb o _ hb=>sm b o hb) λb o hb _=>sm b o hb
  have R3:=R2.ext (c:=c.avoid λb=>c.av b\/b=A) ok2 ex;have w2:wpR (((vd2 (G l[i] Z2) st2).bind λZ1 st1=>(t Z1 st1).bind λb st2=>if b=true then
   (e Z1 st2).bind λy st3=>if y.imm=true/\acc.length<sizeLine then vi1 S G t e (l.drop (i+1)) (acc++[y]) Z1 st3 else .bad
   else vi1 S G t e (l.drop (i+1)) acc Z1 st2).bind λr st2=>.ok (.lst r) st2) (cPq S c g Y Z H Q) (cPe S c H):=w2
  obtain⟨Z4,e4,w4⟩:=za9.mp (za2.mp (za2.mp w2));refine{(λb=>c.av b\/b=A),Z2,_,Z4,st2,R3,ok3,iv,e4,λY4 R4 F4=>?_};have no4:∀b,¬Ow Y4 Z4 b:=λb wb=>by
   obtain⟨n,_,o,ho,_⟩:=R4.owOk wb;exact no2 b (F4.own b o ho n wb)
  refine{(λb=>c.av b\/b=A),Z4,st2,R4,ok3,za6 (za2.mp w4) (λb st5 q5 H5 x5 ok5=>?_) λx st5 q H5 x5 ok5=>q H5 ((e1.trans x2).trans (ex.trans x5)) ok5};have R5:=R4.ext (c:=c.avoid λb=>c.av b\/b=A) ok3 x5;have hA5:H5 A=some (.lst ys):=x5 A _ (sm A _ hA2) hAm;cases b with
  | false=>
    exact{Z4,st5,acc,ys,R5,no4,ok5,x2.trans (ex.trans x5),hA5,im,(il.ext ex ok2 λ_ z=>z.elim).ext x5 ok3 λ_ z=>z.elim,za2.mpr q5}
  | true=>
    refine{(λb=>c.av b\/b=A),Z4,st5,R5,ok5,za6 (za2.mp q5) (λy st6 q6 v H6 x6 ok6 z6=>?_) λx st6 q H6 x6 ok6=>q H6 ((e1.trans x2).trans (ex.trans (x5.trans x6))) ok6};by_cases hy:y.imm=true/\acc.length<sizeLine
    ·rw[if_pos hy] at q6
     have hA6:H6 A=some (.lst ys):=x6 A _ hA5 hAm;have il6:IsL c.K (λ_=>False) H6 acc ys:=((il.ext ex ok2 λ_ z=>z.elim).ext x5 ok3 λ_ z=>z.elim).ext x6 ok5 λ_ z=>z.elim
     refine{ys,hA6,by rw[<-il6.length];exact hy.2,Z4,st6,acc++[y],ys++[v],?_,no4,?_,?_,zb3,?_,?_,za2.mpr q6}
     ·-- the slots do not see the list
      have R6:=R5.ext (c:=c.avoid λb=>c.av b\/b=A) ok5 x6;have nA:∀b,Av (c.avoid λb=>c.av b\/b=A) Y4 Z4 b->b≠A:=λb a z=>a.2.2 (.inr z)
      have k:vd1 (Av (c.avoid λb=>c.av b\/b=A) Y4 Z4) (Av (c.avoid λb=>c.av b\/b=A) Y4 Z4) H6 (upd H6 A (.lst (ys++[v]))):=zh7 (λb o h tt=>by
       have hb:b≠A:=λz=>by
        subst z;rw[hA6] at h;cases h;rcases tt with⟨u,z⟩ | ⟨ob,u,z⟩<;>cases z
       rw[za8 hb];exact h) λb o a h=>{a,by rw[za8 (nA b a)];exact h}
      refine{R6.len,λb o h n=>?_,λj s hs=>?_,λb h=>?_,R6.uniq}
      ·have hb:b≠A:=λz=>by
        subst z;have:=(R6.avl b (.inr rfl)).2.1;rw[show (c.avoid λb'=>c.av b'\/b'=b).H0 b=c.H0 b from rfl] at this;rw[this] at h;cases h
       rw[za8 hb];exact R6.frame b o h n
      ·have qs:=R6.slot j s hs
       cases s with
       | no=>trivial
       | bor d=>obtain⟨v',e1,i1⟩:=qs;exact{v',e1,i1.mono k}
       | own d=>obtain⟨a,ea,_,_,_⟩:=qs;exact(no4 a {j,d,hs,ze1 ea}).elim
       | hnd=>exact qs
      ·obtain⟨n,z,o,h',qq⟩:=R6.avl b h
       by_cases hb:b=A
       ·subst hb
        exact{n,z,_,zb3,(λu z=>by cases z),λob u z=>by cases z}
       ·exact{n,z,o,by rw[za8 hb];exact h',qq}
     ·refine W.stay st6 H6 _ ok6 (λb o m h=>?_) λb o h s=>?_
      ·have hb:b≠A:=λz=>hAm (z▸m)
       rw[za8 hb];exact h
      ·have hb:b≠A:=λz=>by subst z;rw[hA6] at h;cases h;rcases s with⟨_,e⟩ | ⟨_,_,e⟩<;>cases e
       rw[za8 hb];exact h
     ·intro b o h n
      have hb:b≠A:=λz=>by subst z;rw[hA] at h;cases h
      rw[za8 hb];exact((x2.trans (ex.trans (x5.trans x6))) b o h n)
     ·exact ze7 im (by simp[D.immL,hy.1])
     ·have z6':Is c.K (λ_=>False) H6 y v:=Is.ofImm hy.1 z6
      have kk:vd1 (λ_=>False) (λ_=>False) H6 (upd H6 A (.lst (ys++[v]))):=zh7 (λb o h tt=>by
       have hb:b≠A:=λz=>by
        subst z;rw[hA6] at h;cases h;rcases tt with⟨u,z⟩ | ⟨ob,u,z⟩<;>cases z
       rw[za8 hb];exact h) λb o a h=>a.elim
      exact(il6.append (IsL.one z6')).mono kk
    ·rw[if_neg hy] at q6;exact q6.elim
 ·have e0:i=l.length:=by omega
  subst e0;rw[List.drop_length] at w2;refine .inl {h2 (Ae0 _),w2 (.ref A) H2 (e1.trans x2) ok2 (New.val R ?_ g)};exact Is.lst ⟨hAm,hA0⟩ hA2 (IsL.ofImm im il)
def zn2(fz:List Nat)(CS:zi1 X N' ixs scope)(hc:X.calm=true)(hi:DI X c tg iter f)(hin:∀av cl C s H fp,DG (zg4 X N' scope cl C s H fp) (c.avoid av) tg G/\DTs (zg4 X N' scope cl C s H fp) (c.avoid av) ifs t/\DE (zg4 X N' scope cl C s H fp) (c.avoid av) .R elt e)(hs:∀x,foldedSetIterable iter X.env x=pure x:=by intro _;rfl):DE X c g (.ListComp elt [⟨tg,iter,ifs,0⟩] scope pos) (vn6 S fz ixs f G t e):=
 (wo0 (g:=gEx c G) (tc:=tEx c t) (te:=eEx c e) CS hc hi (λcl C s H fp=>
  {λA3 s' Y H' v u Q I r ⟨av,q⟩=>(hin av cl C s H fp).1 A3 s' Y H' v u Q I r q,λA3 s' Y H' Q I ⟨av,q⟩=>(hin av cl C s H fp).2.1 A3 s' Y H' Q I q,λA3 s' Y H' Q I ⟨av,q⟩=>(hin av cl C s H fp).2.2 A3 s' Y H' Q I q}) hs).imp λY H Q q=>xn8 (g:=g) q
def xy3{i:Nat}{y:Str}{py spos:Pos}(fz:List Nat)(CS:zi1 X N' ixs scope)(hc:X.calm=true)(hN:X.N.Nodup)(hy0:X.N[i]?=some y)(hy:X.env.scope.names.lookup y=some .local)(hi:DI X c tg iter f)(hin:∀av cl C s H fp,DG (zg4 X N' scope cl C s H fp) (c.avoid av) tg G/\DTs (zg4 X N' scope cl C s H fp) (c.avoid av) ifs t/\DE (zg4 X N' scope cl C s H fp) (c.avoid av) .R elt e)(hsw:swapsWith (.ListComp elt [{tg,iter,ifs,0}] scope pos) (some (.Name y py)) spos.line X.env=pure true)(hs:∀x,foldedSetIterable iter X.env x=pure x:=by intro _;rfl):DS X c (.Assign [.Name y py] (.ListComp elt [⟨tg,iter,ifs,0⟩] scope pos) spos) (vy2 S i (vn6 S fz ixs f G t e)):=
 (wn8 (g:=gEx c G) (tc:=tEx c t) (te:=eEx c e) CS hc hN hy0 hy hi (λcl C s H fp=>
  {λA3 s' Y H' v u Q I r ⟨av,q⟩=>(hin av cl C s H fp).1 A3 s' Y H' v u Q I r q,λA3 s' Y H' Q I ⟨av,q⟩=>(hin av cl C s H fp).2.1 A3 s' Y H' Q I q,λA3 s' Y H' Q I ⟨av,q⟩=>(hin av cl C s H fp).2.2 A3 s' Y H' Q I q}) hsw hs).imp λD Y H q=>xn8 (g:=.F) (wh2 q)
instance zi2(S:Type)(t:FnT S)(B:FnS S):Nat->FnS S
 | 0,_,_=>.bad
 | n+1,Z,st=>(t Z st).bind λb st1=>if b=true then (B Z st1).bind λfl st2=>match fl with
    | .nx Z2=>zi2 S t B n Z2 st2
    | .ct Z2=>zi2 S t B n Z2 st2
    | .bk Z2=>.ok (.nx Z2) st2
    | .rt d=>.ok (.rt d) st2
   else .ok (.nx Z) st1
open Classical in
instance yi4(S:Type)(t:FnT S)(B:FnS S):FnS S:=λZ st=>if h:∃n,zi2 S t B n Z st≠.bad then zi2 S t B h.choose Z st else .bad
theorem zo4:∀(n k:Nat) (Z:Rho) (st:S),zi2 S t B n Z st≠.bad->zi2 S t B (n+k) Z st=zi2 S t B n Z st
 | 0,_,_,_,h=>(h rfl).elim
 | n+1,k,Z,st,h=>by
   rw[show n+1+k=(n+k)+1 by omega];unfold zi2 at h ⊢;cases q:t Z st with
   | bad=>rfl
   | exc x s=>rfl
   | ok b st1=>
     rw[q] at h;simp only[Res.bind_ok] at h ⊢;cases b with
     | false=>rfl
     | true=>
       simp only[if_true] at h ⊢;cases q2:B Z st1 with
       | bad=>rfl
       | exc x s=>rfl
       | ok fl st2=>
         rw[q2] at h;simp only[Res.bind_ok] at h ⊢;cases fl with
         | nx Z2=>exact zo4 n k Z2 st2 h
         | ct Z2=>exact zo4 n k Z2 st2 h
         | bk Z2=>rfl
         | rt d=>rfl
def yr6{t:FnT S}{B:FnS S}{n:Nat}{Z:Rho}{st:S}(h:zi2 S t B n Z st≠.bad):yi4 S t B Z st=zi2 S t B n Z st:=by
 unfold yi4;have hx:∃n,zi2 S t B n Z st≠.bad:=⟨n,h⟩;rw[dif_pos hx];have h1:=zo4 n hx.choose Z st h;have h2:=zo4 hx.choose n Z st hx.choose_spec;rw[Nat.add_comm] at h2;exact h2.symm.trans h1
def yo8{test:Expr}{body:List Stmt}{t:FnT S}{B:FnS S}(hp:PassesOwn 'e' X.A X.env X.xe)(ht:DT X c test t)(hb:DSs X c body B):DS X c (.While test body [] pos) (yi4 S t B):=
 (wc6 hp ht hb).imp λD Y H hI26=>by
  obtain⟨Z,st,R,ok,w⟩:=hI26;have hx:∃n,zi2 S t B n Z st≠.bad:=by
   apply Classical.byContradiction;intro h;unfold yi4 at w;rw[dif_neg h] at w;exact w
  obtain⟨n,hn⟩:=hx;rw[yr6 hn] at w;refine{λm Y2 H2=>∃Z2 st2,Rep c H2 Y2 Z2/\W.ok st2 H2/\wpR (zi2 S t B m Z2 st2) (vh1 c D Y2 Z2 H2) (vo8 c),⟨n,Z,st,R,ok,w⟩,?_};rintro m Y2 H2 ⟨Z2,st2,R2,ok2,w2⟩;cases m with
  | zero=>exact w2.elim
  | succ m=>
    refine{Z2,st2,R2,ok2,za6 (za2.mp w2) (λb st3 q3 H3 x3 ok3=>?_) λx st3 q H3 x3 ok3=>q H3 (x3.f0 R2) ok3};have R3:=R2.ext ok2 x3;cases b with
    | false=>exact q3 Y2 H3 x3.frm ok3 R3
    | true=>
      refine vz4 ?_;refine{λY4 H4=>∃Z4 st4,Rep c H4 Y4 Z4/\W.ok st4 H4/\wpR (zi2 S t B m Z4 st4) (vh1 c D Y4 Z4 H4) (vo8 c),λY4 H4 q=>{m,Nat.lt_succ_self m,q},Z2,st3,R3,ok3,za6 (za2.mp q3) (λfl st4 q4=>?_) λx st4 q=>q};have nxt:∀Z5,wpR (zi2 S t B m Z5 st4) (vh1 c D Y2 Z2 H2) (vo8 c)->Nx c (λY4 H4=>∃Z4 st4,Rep c H4 Y4 Z4/\W.ok st4 H4/\wpR (zi2 S t B m Z4 st4) (vh1 c D Y4 Z4 H4) (vo8 c)) Y2 Z2 H3 Z5 st4:=
       λZ5 q5 Y5 H5 F5 ok5 R5=>{Z5,st4,R5,ok5,za6 q5 (λfl st6 q=>q.from (x3.frm.trans F5)) λx st6 q=>q}
      cases fl with
      | nx Z5=>exact nxt Z5 q4
      | ct Z5=>exact nxt Z5 q4
      | bk Z5=>exact λY5 H5 F5 ok5 R5=>q4 Y5 H5 (x3.frm.trans F5) ok5 R5
      | rt d=>exact q4
end
instance rho0(n:Nat)(l:List D):Rho:=l.map Sl.bor++List.replicate (n-l.length) .no
instance rhoS(n:Nat)(l:List D):Rho:=Sl.hnd::(l.map Sl.bor++List.replicate (n-1-l.length) .no)
instance uh3{S:Type}(r:Res S Fl):Res S D:=match r with
 | .ok (.rt d) st=>.ok d st
 | .ok (.nx _) st=>.ok .non st
 | .ok _ _=>.bad
 | .exc x st=>.exc x st
 | .bad=>.bad
instance dfn(n p:Nat)(B:FnS Unit):List D->Res Unit D:=λl=>if l.length=p/\p<=n then uh3 (B (rho0 n l) ()) else .bad
instance vp8{S:Type}(n p:Nat)(B:FnS S):List D->S->Res S D:=λl st=>if l.length+1=p/\p<=n then uh3 (B (rhoS n l) st) else .bad
noncomputable abbrev cx0(K:PySem.W.Frag)(H:Hp):Dx W0:={K,H,λ_ _ _=>False,λ_=>False}
noncomputable abbrev cxS{S:Type}(W:Wd S)(K:PySem.W.Frag)(H:Hp):Dx W:={K,H,λ_ _ _=>False,λ_=>False}
def zr0{n:Nat}{i:Nat}(h:(rho0 n l)[i]?=some s):(∃d,s=.bor d/\l[i]?=some d)\/s=.no:=by
 unfold rho0 at h;by_cases hi:i<l.length
 ·rw[Br0 (by rw[Aa0];exact hi),Af0] at h
  cases q:l[i]? with
  | none=>rw[q] at h;cases h
  | some d=>rw[q] at h;cases h;exact .inl ⟨d,rfl,rfl⟩
 ·rw[Cp0 (by rw[Aa0];omega),Cw0] at h
  split at h
  ·cases h;exact .inr rfl
  ·cases h
def zq4{i:Nat}(h:vs[i]?=some v):(ve9 N vs)[i]?=some (some v):=by
 unfold ve9;have hi:i<vs.length:=(Ac0.mp h).1;rw[Br0 (by rw[Aa0];exact hi),Af0,h];rfl
open H in
def xp1{K:PySem.W.Frag}{H:Hp}{N:List Str}{l:List D}{vs:List V}(hl:l.length<=N.length)(h:IsL K (λ_=>True) H l vs):Rep (cx0 K H) H (ve9 N vs) (rho0 N.length l):=by
 have no:∀b,¬Ow (ve9 N vs) (rho0 N.length l) b:=λb hI27=>by
  obtain⟨i,d,h1,_⟩:=hI27;rcases zr0 h1 with⟨_,z,_⟩ | z<;>cases z
 refine{?_,λb o e _=>e,λi s hs=>?_,λb z=>z.elim,λi j a d e h1 _ _ _=>?_}
 ·unfold ve9 rho0
  rw[Ak0,Ak0,Aa0,Aa0,Ea0,Ea0,h.length]
 ·rcases zr0 hs with⟨d,rfl,hd⟩ | rfl
  ·obtain⟨v,hv,iv⟩:=h.get hd
   exact{v,by rw[zq4 hv];rfl,iv.mono {λ_ _ z _=>z,λb o _ z=>{{λm=>m,no b,λm=>m},z}}}
  ·trivial
 ·rcases zr0 h1 with⟨_,z,_⟩ | z<;>cases z
section
variable{P:Program}{w:World}{K:PySem.W.Frag}{mg:Str->Option Value}{base:Heap}
open H in
def Fun.d0{x qual:Str}{st:Stmt}{f:Addr}{fd:FuncData}{N ps:List Str}{k:Nat}{B:FnS Unit}(F:Fun K x qual st f fd)(S:zc2 N ps (za3 st))(hb:∀(cdv:Value) (A:Around) (outer:List Env) (s:Shared) (H:Hp) (E:XK),vd5 k (A.deeper (envOfC qual (za3 st) s.heap.objs.size f cdv))->
  DSs (vf7 CX0 P w K mg base N qual (za3 st) f cdv A outer s H E).nox (cx0 K H) (zb8 st) B):vk3 P w K mg base CX0 (k+1) f fd ps (sp0 K (dfn N.length ps.length B)):=by
 refine F.ok S (λvs H Q E h=>?_) λcdv A outer s H vs Q E hr h=>?_
 ·obtain⟨l,i,w⟩:=h
  unfold dfn at w;split at w
  ·rename_i hl
   rw[<-i.length];exact hl.1
  ·exact w.elim
 ·obtain⟨l,i,w⟩:=h
  unfold dfn at w;split at w
  ·rename_i hl
   refine{_,hb cdv A outer s H E hr,rho0 N.length l,(),xp1 'o' i,trivial,?_};cases q:B (rho0 N.length l) () with
   | bad=>rw[q] at w;exact w.elim
   | exc x u=>rw[q] at w;exact w.elim
   | ok fl u=>
     rw[q] at w;have fin:∀d v H',F0 (cx0 K H) H'->Is K (λb=>¬W0.mv b/\H b=none) H' d v->(∀v H',vk5 H H'->Is K (λb=>H b=none) H' d v->Q v H')->Q v H':=λd v H' f0 z q=>
      q v H' (λb o e=>f0 b o e λm=>m) (z.mono {λ_ _ z _=>z,λb o a z=>⟨a.2,z⟩})
     cases fl with
     | rt d=>exact λv H' f0 _ z=>fin d v H' f0 z w
     | nx Z=>exact λY' H' fr _ R'=>fin .non .non H' (λb o e n=>R'.frame b o e n) (Is.non_iff.mpr rfl) w
     | bk Z=>exact w.elim
     | ct Z=>exact w.elim
  ·exact w.elim
open H in
def Fun.dS{Sx:Type}{W:Wd Sx}{x qual:Str}{st:Stmt}{f:Addr}{fd:FuncData}{N ps:List Str}{k:Nat}{B:FnS Sx}(F:Fun K x qual st f fd)(S:zc2 N ps (za3 st))(hb:∀(cdv:Value) (A:Around) (outer:List Env) (s:Shared) (H:Hp) (E:XK),vd5 k (A.deeper (envOfC qual (za3 st) s.heap.objs.size f cdv))->
  DSs (vf7 CX0 P w K mg base N qual (za3 st) f cdv A outer s H E).nox (cxS W K H) (zb8 st) B):vk3 P w K mg base CX0 (k+1) f fd ps (spS W K (vp8 N.length ps.length B)):=by
 refine F.ok S (λvs H Q E h=>?_) λcdv A outer s H vs Q E hr h=>?_
 ·obtain⟨l,us,st0,rfl,i,ok,w⟩:=h
  unfold vp8 at w;split at w
  ·rename_i hl
   rw[Ax0,<-i.length];exact hl.1
  ·exact w.elim
 ·obtain⟨l,us,st0,rfl,i,ok,w⟩:=h
  unfold vp8 at w;split at w
  ·rename_i hl
   have no:∀b,¬Ow (ve9 N (W.h::us)) (rhoS N.length l) b:=λb hI28=>by
    obtain⟨j,d,h1,_⟩:=hI28;unfold rhoS at h1;cases j with
    | zero=>cases h1
    | succ j=>
      have h1:(l.map Sl.bor++List.replicate (N.length-1-l.length) .no)[j]?=some (.own d):=by simpa using h1
      rcases zr0 (n:=N.length-1) h1 with⟨_,z,_⟩ | z<;>cases z
   have R:Rep (cxS W K H) H (ve9 N (W.h::us)) (rhoS N.length l):=by
    refine{?_,λb o e _=>e,λj s hs=>?_,λb z=>z.elim,λj j' a d e h1 _ h3 _=>(no a ⟨j,d,h1,h3⟩).elim}
    ·unfold ve9 rhoS
     simp only[Ak0,Ax0,Aa0,Ea0];have:=i.length;omega
    ·unfold rhoS at hs
     cases j with
     | zero=>cases hs;exact by rw[zq4 (v:=W.h) rfl];rfl
     | succ j=>
       have hs:(l.map Sl.bor++List.replicate (N.length-1-l.length) .no)[j]?=some s:=by simpa using hs
       rcases zr0 (n:=N.length-1) hs with⟨d,rfl,hd⟩ | rfl
       ·obtain⟨v,hv,iv⟩:=i.get hd
        exact{v,by rw[zq4 (v:=v) (by simpa using hv)];rfl,iv.mono {λ_ _ z _=>z,λb o a z=>{{a,no b,λm=>m},z}}}
       ·trivial
   refine{_,hb cdv A outer s H E hr,rhoS N.length l,st0,R,ok,?_};cases q:B (rhoS N.length l) st0 with
   | bad=>rw[q] at w;exact w.elim
   | exc x u=>rw[q] at w;exact w.elim
   | ok fl u=>
     rw[q] at w;cases fl with
     | rt d=>exact λv H' f0 ok' z=>w v H' f0 ok' z
     | nx Z=>exact λY' H' fr ok' R'=>w .non H' (λb o e n=>R'.frame b o e n) ok' (Is.non_iff.mpr rfl)
     | bk Z=>exact w.elim
     | ct Z=>exact w.elim
  ·exact w.elim
end
structure zb9(P:Program)(w:World)(K:PySem.W.Frag)(mg:Str->Option Value)(base:Heap)(k:Nat)(x:Str)(ps:List Str)(sp:Sp):Prop where
 ex:∃f fd,mg x=some (.ref f)/\keepIn K (.ref f)=true/\vo1 K fd ps []/\vk3 P w K mg base CX0 k f fd ps sp
section
variable{X:Cx}{S:Type}{W:Wd S}{c:Dx W}{g:Gr}{k:Nat}{x:Str}{ps:List Str}{p pos:Pos}{e:Expr}{es:List Expr}
def zc7{G:List D->Res Unit D}{f:FnA S}(C:zb9 X.prog X.w X.K X.mg X.base k x ps (sp0 c.K G))(hr:vd5 k X.A)(hg:Gl X x)(ha:DA X c (e::es) f)(hdb:autoParam ((x == ("__debug__" : Str))=false) uD)(he:autoParam (starEach (e::es) X.env=(false,eval e X.env)::starEach es X.env) uR)(hpl:autoParam ((backTo pos (starEach es X.env)).any (·.1)=false) uR):DE X c g (.Call (.Name x p) (e::es) [] pos) (vr6 S G f):=by
 obtain⟨fa,fd,hm,hk,hb,F⟩:=C.ex;exact(ym5 (E:=E0) F hr hg hm hk hb .nil vq8 ha hdb he hpl).imp λY H Q q=>wc2 q
def zb7{G:List D->S->Res S D}{f:FnA S}{i:Nat}{y:Str}{py:Pos}(C:zb9 X.prog X.w X.K X.mg X.base k x ps (spS W c.K G))(hr:vd5 k X.A)(hg:Gl X x)(hy:PE X (.Name y py) (vj0 i))(ha:DA X c es f)(hdb:autoParam ((x == ("__debug__" : Str))=false) uD)(he:autoParam (starEach (.Name y py::es) X.env=(false,eval (.Name y py) X.env)::starEach es X.env) uR)(hpl:autoParam ((backTo pos (starEach es X.env)).any (·.1)=false) uR):DE X c g (.Call (.Name x p) (.Name y py::es) [] pos) (yv2 S G i f):=by
 obtain⟨fa,fd,hm,hk,hb,F⟩:=C.ex;exact(ym5 (E:=E0) F hr hg hm hk hb .nil vq8 (zf6 hy ha he) hdb he hpl).imp λY H Q q=>wc1 q
end
section
variable{S:Type}
def zl2{i:Int}:New c H H' (.int i) (.int i):=Is.int_iff.mpr rfl
def zq2{i:Bool}:New c H H' (.bl i) (.bl i):=Is.bl_iff.mpr rfl
instance iOp(C:Int->Int->Prop)[∀i j,Decidable (C i j)](g:Int->Int->D):D->D->Option D
 | .int i,.int j=>if C i j then some (g i j) else none
 | _,_=>none
instance vg7(g:Int->Int->D):D->D->Option D
 | .int i,.int j=>some (g i j)
 | _,_=>none
open H in
def vz1{C:Int->Int->Prop}[∀i j,Decidable (C i j)]{g:Int->Int->Int}:OpD c (rI C λi j=>.int (g i j)) (iOp C λi j=>.int (g i j)):=by
 intro d1 d2 v1 v2 H st d Q ok z1 z2 e q;unfold iOp at e;split at e
 ·rename_i i j
  split at e
  ·rename_i h
   cases e;exact{i,j,Is.int_iff.mp z1,Is.int_iff.mp z2,h,q _ H Ext.refl ok zl2}
  ·cases e
 ·cases e
open H in
def vj8{g:Int->Int->Int}:OpD c (rI0 λi j=>.int (g i j)) (vg7 λi j=>.int (g i j)):=by
 intro d1 d2 v1 v2 H st d Q ok z1 z2 e q;unfold vg7 at e;split at e
 ·rename_i i j
  cases e;exact{i,j,Is.int_iff.mp z1,Is.int_iff.mp z2,q _ H Ext.refl ok zl2}
 ·cases e
open H in
def vi5{g:Int->Int->Bool}:OpD c (rI0 λi j=>.bl (g i j)) (vg7 λi j=>.bl (g i j)):=by
 intro d1 d2 v1 v2 H st d Q ok z1 z2 e q;unfold vg7 at e;split at e
 ·rename_i i j
  cases e;exact{i,j,Is.int_iff.mp z1,Is.int_iff.mp z2,q _ H Ext.refl ok zq2}
 ·cases e
theorem OpD.or(h:OpD c r o)(h':OpD c r' o'):OpD c (λx y H Q=>r x y H Q\/r' x y H Q) (λa b=>(o a b).or (o' a b)):=by
 intro d1 d2 v1 v2 H st d Q ok z1 z2 e q;cases e1:o d1 d2 with
 | some d'=>
   have e:some d'=some d:=by simpa [e1] using e
   cases e;exact .inl (h d1 d2 v1 v2 H st d Q ok z1 z2 e1 q)
 | none=>
   have e:o' d1 d2=some d:=by simpa [e1] using e
   exact .inr (h' d1 d2 v1 v2 H st d Q ok z1 z2 e q)
@[reducible]instance (i j:Int):Decidable (vx3 i j):=by unfold vx3;infer_instance
@[reducible]instance (i j:Int):Decidable (vo0 i j):=by unfold vo0;infer_instance
@[reducible]instance (i j:Int):Decidable (ui9 i j):=by unfold ui9;infer_instance
@[reducible]instance (i j:Int):Decidable (ua9 i j):=by unfold ua9;infer_instance
instance oIx:D->D->Option D
 | .tup l,.int i=>im (atI l i)
 | .lst l,.int i=>im (atI l i)
 | _,_=>none
theorem wa4{K:PySem.W.Frag}{A:Addr->Prop}{H:Hp}{l:List D}{vs:List V}{i:Int}{d:D}(z:IsL K A H l vs)(h:atI l i=some d):∃v,atI vs i=some v/\Is K A H d v:=by
 unfold atI at h ⊢;rw[<-z.length];cases q:ixN l.length i with
 | none=>rw[q] at h;cases h
 | some j=>
   rw[q] at h;exact z.get (i:=j) h
theorem yf1(h:im o=some d):o=some d/\d.imm=true:=by
 cases o with
 | none=>cases h
 | some x=>
   have h:(if x.imm=true then some x else none)=some d:=h;split at h
   ·cases h;exact{rfl,by assumption}
   ·cases h
open H in
def vz0{K:PySem.W.Frag}(hK:c.K=K):OpD c (rIx K) oIx:=by
 intro d1 d2 v1 v2 H st d Q ok z1 z2 e q;unfold oIx at e;split at e
 ·rename_i l i
  obtain⟨a,vs,ea,s,z⟩:=Is.tup_sq z1;obtain⟨e,m⟩:=yf1 e;obtain⟨v,hv,iv⟩:=wa4 z e;exact .inr (.inl {a,vs,i,v,ea,Is.int_iff.mp z2,hK▸s,hv,q v H Ext.refl ok (New.imm m iv)})
 ·rename_i l i
  obtain⟨a,vs,ea,n,s,z⟩:=Is.lst_iff.mp z1;obtain⟨e,m⟩:=yf1 e;obtain⟨v,hv,iv⟩:=wa4 z e;exact .inl {a,vs,i,v,ea,Is.int_iff.mp z2,.of s,hv,q v H Ext.refl ok (New.imm m iv)}
 ·cases e
end
section
variable{X:Cx}{S:Type}{W:Wd S}{c:Dx W}{H H':Hp}{Y:St}{Z:Rho}{st:S}{i:Nat}{d d':D}{a:Addr}{o:HO}
open H in
def xr6(hi:Z[i]?=some (.own d))(b:Addr):Ow Y (Z.set i (.own d')) b↔Ow Y Z b:=by
 have hlt:i<Z.length:=(Ac0.mp hi).1;constructor
 ·rintro ⟨j,e,h1,h2⟩
  rcases zb0 h1 with⟨m,_⟩ | ⟨_,z⟩
  ·subst m;exact⟨j,d,hi,h2⟩
  ·exact⟨j,e,z,h2⟩
 ·rintro ⟨j,e,h1,h2⟩
  by_cases m:j=i
  ·subst m;exact{j,d',Cx0 hlt,h2}
  ·exact{j,e,by rw[Ba0 (Ne.symm m)];exact h1,h2}
open H in
def Rep.wr(R:Rep c H Y Z)(hi:Z[i]?=some (.own d))(ha:Y[i]?=some (some (.ref a)))(ht:(∀u,o≠.tup u)/\∀ob u,o≠.frz ob u)(h:vd1 (Av c Y Z) (Av c Y Z) H (upd H a o)->Top c.K (Av c Y Z) (upd H a o) d' a):Rep c (upd H a o) Y (Z.set i (.own d'))/\Frm c H Y Z (upd H a o) Y (Z.set i (.own d')):=by
 have hlt:i<Z.length:=(Ac0.mp hi).1;have wa:Ow Y Z a:=⟨i,d,hi,ha⟩;obtain⟨nm,h0,o1,ho,n1,n2⟩:=R.owOk wa;have k:vd1 (Av c Y Z) (Av c Y Z) H (upd H a o):=zh7 (λb u e t=>by
  have hb:b≠a:=λz=>by
   subst z;rw[ho] at e;cases e;rcases t with⟨w,z⟩ | ⟨ob,w,z⟩
   ·exact n1 w z
   ·exact n2 ob w z
  rw[za8 hb];exact e) λb u av e=>{av,by rw[za8 (λ(z:b=a)=>av.2.1 (z▸wa))];exact e}
 have avEq:Av c Y (Z.set i (.own d'))=Av c Y Z:=by
  funext b;unfold Av;rw[xr6 (Y:=Y) (d':=d') hi b]
 have T:=h k;refine{{by rw[Bx0];exact R.len,λb u e n=>?_,λj s hs=>?_,λb hb=>?_,λj j' b e e' h1 h2 h3 h4=>?_},{λb u e n w=>?_,λb u e n w=>(xr6 hi b).mp w}}
 ·have hb:b≠a:=λz=>by subst z;rw[show c.H0 b=none from h0] at e;cases e
  rw[za8 hb];exact R.frame b u e n
 ·rw[avEq]
  rcases zb0 hs with⟨m,z⟩ | ⟨nj,z⟩
  ·subst z m
   obtain⟨b,e1,n,f,t⟩:=R.slot j _ hi;rw[ha] at e1;have e1:some (V.ref a)=some (V.ref b):=e1;cases e1;exact{a,by rw[ha];rfl,n,f,T}
  ·have q:=R.slot j s z
   cases s with
   | no=>trivial
   | bor e=>obtain⟨v',e1,i1⟩:=q;exact{v',e1,i1.mono k}
   | own e=>
     obtain⟨b,e1,n,f,t⟩:=q;have hb:b≠a:=λz'=>by
      subst z';exact nj (R.uniq j i b e d z hi (ze1 e1) ha)
     exact{b,e1,n,f,t.mono k λu z=>by rw[za8 hb];exact z}
   | hnd=>exact q
 ·obtain⟨n,z,u,h',q⟩:=R.avl b hb
  have hba:b≠a:=λz'=>by
   subst z';obtain⟨b',e1,n',_⟩:=R.slot i _ hi;rw[ha] at e1;have e1:some (V.ref b)=some (V.ref b'):=e1;cases e1;exact n'.2 hb
  exact{n,z,u,by rw[za8 hba];exact h',q}
 ·have fix:∀(j:Nat) (e:D),(Z.set i (.own d'))[j]?=some (.own e)->∃e',Z[j]?=some (.own e'):=λj e h1=>by
   rcases zb0 h1 with⟨m,_⟩ | ⟨_,z⟩
   ·subst m;exact⟨d,hi⟩
   ·exact⟨e,z⟩
  obtain⟨x1,y1⟩:=fix j e h1;obtain⟨x2,y2⟩:=fix j' e' h2;exact R.uniq j j' b x1 x2 y1 y2 h3 h4
 ·have hb:b≠a:=λz=>w (z▸wa)
  rw[za8 hb];exact e
instance vd8(Z:Rho)(i:Nat):Option (List D):=match Z[i]? with
 | some (.own (.lst l))=>if D.immL l=true then some l else none
 | _=>none
def yt2(h:vd8 Z i=some l):Z[i]?=some (.own (.lst l))/\D.immL l=true:=by
 unfold vd8 at h;split at h
 ·split at h
  ·cases h;exact{by assumption,by assumption}
  ·cases h
 ·cases h
def zy8(h:vd8 Z i=some l):Z[i]?=some (.own (.lst l)):=(yt2 h).1
def Rep.lstAt(R:Rep c H Y Z)(h:vd8 Z i=some l):∃a vs,Y[i]?=some (some (.ref a))/\H a=some (.lst vs)/\IsL c.K (Av c Y Z) H l vs/\¬W.mv a:=by
 obtain⟨a,e1,n,f,vs,e2,z⟩:=R.slot i _ (zy8 h);exact{a,vs,ze1 e1,e2,z,n.1}
def yd8(ok:W.ok st H)(n:¬W.mv a)(e:H a=some u)(ns:¬vo7 u:=by (intro s;rcases s with⟨_,e⟩ | ⟨_,_,e⟩<;>cases e)):W.ok st (upd H a o):=W.stay st H _ ok (λb u m e=>by rw[za8 (λ(z:b=a)=>n (z▸m))];exact e) λb u h s=>by
 rw[za8 (λ(z:b=a)=>by subst z;rw[e] at h;cases h;exact ns s)];exact h
instance sMt(S:Type)(i:Nat)(o:List D->D->Option (List D))(f:Fn S):FnS S:=λZ st=>match vd8 Z i with
 | some l=>(f Z st).bind λd st1=>(vd2 (o l d) st1).bind λl' st2=>.ok (.nx (Z.set i (.own (.lst l')))) st2
 | none=>.bad
instance MtD{S:Type}{W:Wd S}(c:Dx W)(r:V->List V->Hp->VK->Prop)(o:List D->D->Option (List D)):Prop:=∀l d l' a vs v H (Q:VK),o l d=some l'->H a=some (.lst vs)->IsL c.K (λb=>¬W.mv b) H l vs->Is c.K (λb=>¬W.mv b) H d v->
 (∀us,(D.immL l=true->D.immL l'=true/\IsL c.K (λb=>¬W.mv b) H l' us)->Q .non (upd H a (.lst us)))->r (.ref a) [v] H Q
def vh9{x m:Str}{id:String}{e:Expr}{f:Fn S}{p1 p2 p3 p4:Pos}{r:V->List V->Hp->VK->Prop}{o:List D->D->Option (List D)}(hm:MtR X id r)(ho:MtD c r o)(slot:Slot "list" m id)(hty:typeOf (.builtin id)=pure (.type "method_descriptor"))(hx:PE X (.Name x p1) (vj0 i))(he:DE X c .R e f)(hK:c.K=X.K)(hbase:autoParam (attributeBase (.Name x p1) m X.env (eval (.Name x p1) X.env)=eval (.Name x p1) X.env) uR)(hfew:autoParam (((backTo p3 (starEach [e] X.env)).all (λx=>!x.1)&&(backToKw p3 (keywordEach [] X.env)).all (λx=>x.1.isSome)
  && decide (([e]:List Expr).length+([]:List Keyword).length+(if ([]:List Keyword).isEmpty then 0 else 1)<30))=true) uR)(hline:autoParam ((p2.endLine == p3.line)=true) uR)(hs:autoParam (starEach [e] X.env=(false,eval e X.env)::starEach [] X.env) uR)(hplain:autoParam ((backTo p3 (starEach [] X.env)).any (·.1)=false) uR)(hsw:autoParam (swapsWith (.Call (.Attribute (.Name x p1) m p2) [e] [] p3) none p4.line X.env=pure false) uR) :
 DS X c (.Expr (.Call (.Attribute (.Name x p1) m p2) [e] [] p3) p4) (sMt S i o f):=
 (xq1 (ue9 PySem.F.plainAttrs_list slot hty hm hx (zf6 he zn8 hs) hbase hfew hline hs hplain) hsw).imp λD Y H hI29=>by
  obtain⟨Z,st,R,ok,w⟩:=hI29;unfold sMt at w;cases q:vd8 Z i with
  | none=>rw[q] at w;exact w.elim
  | some l=>
    rw[q] at w;obtain⟨a,vs,ea,eH,z,nm⟩:=R.lstAt q;refine{.ref a,ea,.inl {rfl,vs,.of eH},Z,st,R,ok,za6 (za2.mp w) (λd st1 q v H1 e ok1 zv=>?_) λx st1 q H1 e ok1=>q H1 (e.f0 R) ok1};obtain⟨l',e',q'⟩:=za9.mp (za2.mp q);have R1:=R.ext ok e;have eH1:=e a _ eH nm;have kA:vd1 (Av c Y Z) (λb=>¬W.mv b) H1 H1:={λ_ _ z _=>z,λb o a z=>⟨a.1,z⟩};refine ho l d l' a vs v H1 _ e' eH1 (IsL.mono kA (z.mono (e.keepT ok λb a=>⟨a.1,a⟩))) zv λus hus=>?_
    obtain⟨m',z'⟩:=hus (yt2 (by assumption)).2;obtain⟨R2,F2⟩:=R1.wr (d':=.lst l') (o:=.lst us) (zy8 (by assumption)) ea {(λu z=>by cases z),(λob u z=>by cases z)} λk=>{us,zb3,IsL.mono k (IsL.ofImm m' z')}
    exact q' Y _ (e.frm.trans F2) (yd8 ok1 nm eH1) R2
instance uf6(l:List D)(d:D):Option (List D):=if d.imm=true/\l.length<sizeLine then some (l++[d]) else none
instance ub5(l:List D)(d:D):Option (List D):=match d with
 | .lst m=>if D.immL m=true/\l.length+m.length<=sizeLine then some (l++m) else none
 | _=>none
open H in
def zl5:MtD c xp5 uf6:=by
 intro l d l' a vs v H Q e eH z zv q;unfold uf6 at e;split at e
 ·rename_i h
  cases e;refine{a,vs,v,rfl,rfl,eH,by rw[<-z.length];exact h.2,q _ λm=>{ze7 m (by simp[D.immL,h.1]),z.append (IsL.one zv)}}
 ·cases e
open H in
def zr6:MtD c xp4 ub5:=by
 intro l d l' a vs v H Q e eH z zv q;unfold ub5 at e;split at e
 ·rename_i n
  split at e
  ·rename_i h
   cases e;obtain⟨b,us,eb,nb,hb,zb⟩:=Is.lst_iff.mp zv;subst eb;refine{a,b,vs,us,rfl,rfl,eH,hb,by rw[<-z.length,<-zb.length];exact h.2,q _ λm=>{ze7 m h.1,z.append zb}}
  ·cases e
 ·cases e
end
instance zl7(N:List Str)(osc:Scope)(N':List Str)(ixs:List (Option Nat))(scope:Scope):Bool:=
 decide (scope.kind=.function)&&scope.names.all (λy=>decide (y.2≠.cell))&&scope.names.all (λy=>decide (y.2=.local->scope.names.lookup y.1=some .local))&&decide (ixs.length=N'.length) &&
 scope.names.all (λy=>decide (y.2=.free->osc.names.lookup y.1=some .cell\/osc.names.lookup y.1=some .free)) &&
 (List.range N'.length).all (λj=>match N'[j]?,ixs[j]? with
  | some y,some (some i)=>decide (N[i]?=some y)&&decide (scope.names.lookup y=some .free)
  | _,_=>true)
def zl7.scope{X:Cx}{N:List Str}{osc:Scope}{N':List Str}{ixs:List (Option Nat)}{scope:Scope}(h:zl7 N osc N' ixs scope=true)(hN:autoParam (X.N=N) uR)(hS:autoParam (X.env.scope=osc) uR):zi1 X N' ixs scope:=by
 unfold zl7 at h;simp only[Bool.and_eq_true,decide_eq_true_eq,Cm0] at h;obtain⟨⟨⟨⟨⟨h1,h2⟩,h3⟩,h4⟩,h5⟩,h6⟩:=h;refine{h1,h2,h3,h4,λy hy hf=>by rw[hS];exact h5 y hy hf,λj i y e1 e2=>?_};have hj:j<N'.length:=(Ac0.mp e1).1;have q:=h6 j (Bw0.mpr hj);rw[e1,e2] at q;simp only[Bool.and_eq_true,decide_eq_true_eq] at q;exact{by rw[hN];exact q.1,q.2}
end L2
namespace PySem
open H in
def yh3(l:Addr)(items:Array Value)(n:Nat)(dct:Option Addr)(sl:Array (Option Value)) :
 Meets (Builtin.«enumerate.__new__» {[.type "enumerate",.ref l],[]}) (λ_ R s=>s.heap.get? l=some { cls:=.type "tuple",dict:=dct,data:=.seq items n,slots:=sl }/\
  R (.ok (.ret (.ref (s.heap.push { cls:=.type "tuple_iterator",data:=.fields #[.ref l,.int 0 0] }).objs.size)))
    { s with heap:=(s.heap.push { cls:=.type "tuple_iterator",data:=.fields #[.ref l,.int 0 0] }).push { cls:=.type "enumerate",data:=.fields #[.none,.bool false,.ref s.heap.objs.size,rawInt 0,.none,.none] } }):=
 .of_wp λprog w A R s h=>by
  obtain⟨hp,g,d,tk,os⟩:=s;obtain⟨hl,h⟩:=h;have hsub:=sub_enumerate;have hT:Heap.IsTuple (Shared.heap ⟨hp,g,d,tk,os⟩) l items:={_,hl,rfl,n,rfl}
  wp_walk using wpAny_loadPart' hl
  refine wpAny_stack_any λst=>Ac1 ?_
  split
  ·rename_i c _ _ _ _ _
   cases (c == Value.type "enumerate")<;>(wp_walk using wpAny_loadPart' hl,wpAny_pyIter_tuple hT;exact{_,rfl,h})
  ·(wp_walk using wpAny_loadPart' hl,wpAny_pyIter_tuple hT;exact{_,rfl,h})
def yp8(hL:s.heap.IsTuple l items)(h:∀h',IsEnum h' (s.heap.objs.size+1) s.heap.objs.size 0 .none->h'.IsTupleIter s.heap.objs.size l 0->(∀b o,s.heap.get? b=some o->h'.get? b=some o)->Q (.ref (s.heap.objs.size+1)) { s with heap:=h' }) :
 wpAny 'r' A (call (.type "enumerate") [.ref l]) Q E s:=by
 obtain⟨⟨c,dct,dt,sl⟩,hl,hc,n,hd⟩:=hL;have hc:c=.type "tuple":=hc;have hd:dt=.seq items n:=hd;subst hc hd;refine callType_new F.called_enumerate 'z' (F.typeCall_enumerate_1 _) (F.newCall_enumerate_1 _) (λobj=>F.args_object_init_2 obj _) F.entry_enumerate_new (yh3 l items n dct sl) {hl,?_};generalize hg:s.heap.push { cls:=.type "tuple_iterator",data:=.fields #[.ref l,.int 0 0] }=g;have hz:g.objs.size=s.heap.objs.size+1:=by rw[<-hg];exact Bs0 ..
 have he:IsEnum (g.push { cls:=.type "enumerate",data:=.fields #[.none,.bool false,.ref s.heap.objs.size,rawInt 0,.none,.none] }) (s.heap.objs.size+1) s.heap.objs.size 0 .none:=by
  have:=Ag0 g (o:={ cls:=.type "enumerate",data:=.fields #[.none,.bool false,.ref s.heap.objs.size,rawInt 0,.none,.none] }) rfl;rw[hz] at this;exact this
 have hi:g.get? s.heap.objs.size=some { cls:=.type "tuple_iterator",data:=.fields #[.ref l,.int 0 0] }:=by rw[<-hg];exact Ag0 _ rfl
 show _/\_;rw[hz];exact{{_,he,rfl},h _ he {_,Ab0 _ hi,rfl,rfl} λb o x=>Ab0 _ (by rw[<-hg];exact Ab0 _ x)}
open H in
def zo0{i:Nat}(hit:s.heap.IsTupleIter it l i)(hl:s.heap.IsTuple l items)(hx:items[i]?=some x)(hQ:∀h',h'.IsTupleIter it l (i+1)->Heap.SameBut it s.heap h'->Q x { s with heap:=h' }):wpAny 'r' A (Builtin.SmallTypes.nextOf (.ref it)) Q E s:=by
 obtain⟨o,ho,hc,hd⟩:=id hit;obtain⟨ol,hol,_,nl,hdl⟩:=hl;unfold Builtin.SmallTypes.nextOf;refine Aa1 (wpAny_callSpecial?_slot (name:=Str.ofString "__next__") hit.typeIs F.slot_tuple_iterator_next (Ak1 F.slot_tuple_iterator_next hit.typeIs F.entry_tuple_iterator_next ?_ (F.args_tuple_iterator_next_1 _)));show wpAny _ _ (field (.ref it) 0 >>= λ_=>_) _ _ s;refine Aa1 (Ae1 ho hd (x:=.ref l) rfl ?_);show wpAny _ _ (if (Value.ref l == Value.none)=true then _ else _) _ _ s;have nn:¬(Value.ref l == Value.none)=true:=Aq0;rw[if_neg nn];refine Aa1 (m:=field (.ref it) 1) (Ae1 ho hd (x:=.int i 0) rfl ?_);refine Aa1 (m:=seqItems? (.ref l)) (An1 hol hdl ?_);simp only[Bp0,hx];refine Aa1 (wpAny_setField ho hd 'd' (Ac1 {x,rfl,Ac1 (hQ _ ?_ (Heap.SameBut.update ..))}));refine{_,Heap.get?_update_self _ ho (Obj.isFreed_of_fields (Obj.data_mapFields hd _)),(Obj.cls_mapFields ..).trans hc,?_};rw[Obj.data_mapFields hd];simp[rawInt]
open H in
def zq1{i:Nat}(hh:A.handled=none)(hit:s.heap.IsTupleIter it l i)(hl:s.heap.IsTuple l items)(hx:items[i]?=none)(hE:∀h' e,Heap.ExtBut it s.heap h'->(∃o,h'.get? e=some o/\o.cls=.type "StopIteration")->E (.ref e) { s with heap:=h' }):wpAny 'r' A (Builtin.SmallTypes.nextOf (.ref it)) Q E s:=by
 obtain⟨o,ho,hc,hd⟩:=id hit;obtain⟨ol,hol,_,nl,hdl⟩:=hl;unfold Builtin.SmallTypes.nextOf;refine Aa1 (wpAny_callSpecial?_slot (name:=Str.ofString "__next__") hit.typeIs F.slot_tuple_iterator_next (Ak1 F.slot_tuple_iterator_next hit.typeIs F.entry_tuple_iterator_next ?_ (F.args_tuple_iterator_next_1 _)));show wpAny _ _ (field (.ref it) 0 >>= λ_=>_) _ _ s;refine Aa1 (Ae1 ho hd (x:=.ref l) rfl ?_);show wpAny _ _ (if (Value.ref l == Value.none)=true then _ else _) _ _ s;have nn:¬(Value.ref l == Value.none)=true:=Aq0;rw[if_neg nn];refine Aa1 (m:=field (.ref it) 1) (Ae1 ho hd (x:=.int i 0) rfl ?_);refine Aa1 (m:=seqItems? (.ref l)) (An1 hol hdl ?_);simp only[Bp0,hx];refine Aa1 (Aj1 (Aa1 (wpAny_setField ho hd 'd' ?_)));refine Aa1 (m:=newExc (.type "StopIteration") []) ?_;simp only[newExc,newTuple];refine Aa1 (wpAny_newObj_type ?_ (by size_fits));refine Aa1 (m:=firstArgMember _ _) (wpAny_of_eq (a:=Value.none) (by first | rfl | (simp only[firstArgMember];rfl)) ?_);refine wpAny_newObj_type ?_ (by size_fits);simp only[raiseNew];refine Aa1 (wpAny_handled ?_);first | rw[show A.in1.handled=none from hh] | rw[hh]
 exact Aa1 (Ac1 (wpAny_throw (hE _ _ (((Heap.SameBut.update ..).extBut.push _).push _) {_,Ag0 _ rfl,rfl})))
def xy0{e it:Addr}{i:Nat}{x old:Value}{T:Heap->Prop}{Q:Value->Shared->Prop}(he:IsEnum s.heap e it i old)(hne:e≠it)(hT:∀h h',T h->(∀o,h.get? it=some o->h'.get? it=some o)->T h')(hnx:∀Q':Value->Shared->Prop,(∀h',T h'->Heap.SameBut it s.heap h'->Q' x { s with heap:=h' })->wpAny 'r' A (Builtin.SmallTypes.nextOf (.ref it)) Q' E s)(hQ:∀h',IsEnumOut h' e it ((i:Int)+1) x s.heap.objs.size->T h'->h'.get? s.heap.objs.size=some { cls:=.type "tuple",data:=.seq #[.int i s.toks,x] }->h'.objs.size=s.heap.objs.size+1->
  (∀b o,b≠e->b≠it->s.heap.get? b=some o->h'.get? b=some o)->Q (.ref s.heap.objs.size) { s with heap:=h',toks:=s.toks+1 }) :
 wpAny 'r' A (Builtin.«enumerate.__next__» {[.ref e],[]}) (λfin s'=>∃v,fin=.done (.ret v)/\Q v s') E s:=by
 obtain⟨hp,g,d,tk,os⟩:=s;refine Aa1 (m:=field (.ref e) 2) (Ae1 he rfl (x:=.ref it) rfl ?_);refine Aa1 (hnx _ λh₁ t₁ hs₁=>?_);have hs₁:Heap.SameBut it hp h₁:=hs₁;have he₁:IsEnum h₁ e it i old:=(hs₁.2 e hne).trans he;show wpAny _ _ (field (.ref e) 3 >>= λ_=>_) _ _ ⟨h₁,g,d,tk,os⟩;refine Aa1 (Ae1 he₁ rfl (x:=rawInt i) rfl ?_);refine Aa1 (m:=field (.ref e) 4) (Ae1 he₁ rfl (x:=.none) rfl ?_);refine Aa1 (m:=mkInt i) (wpAny_mkInt ?_);refine Aa1 (m:=setField (.ref e) 3 (rawInt ((i:Int)+1))) (Ag1 he₁ 'd' λh₂ he₂ hs₂=>?_);have hs₂:Heap.SameBut e h₁ h₂:=hs₂;have he₂:IsEnum h₂ e it ((i:Int)+1) old:=he₂;refine Aa1 (m:=setField (.ref e) 4 .none) (Ag1 he₂ 'd' λh₃ he₃ hs₃=>?_);have hs₃:Heap.SameBut e h₂ h₃:=hs₃;have he₃:IsEnum h₃ e it ((i:Int)+1) old:=he₃;refine Aa1 (m:=newTuple [.int i tk,x]) (wpAny_newTuple ?_);have he₄:IsEnum (h₃.push { cls:=.type "tuple",data:=.seq #[.int i tk,x] }) e it ((i:Int)+1) old:=Ab0 _ he₃;generalize hh₄:h₃.push { cls:=.type "tuple",data:=.seq #[.int i tk,x] }=h₄ at he₄;have hsz:h₃.objs.size=hp.objs.size:=by rw[hs₃.1,hs₂.1,hs₁.1]
 have hel:hp.objs.size≠e:=Nat.ne_of_gt (Heap.lt_size he);have ht₄:h₄.get? hp.objs.size=some { cls:=.type "tuple",data:=.seq #[.int i tk,x] }:=by rw[<-hh₄,<-hsz];exact Ag0 _ rfl
 have hz₄:h₄.objs.size=hp.objs.size+1:=by rw[<-hh₄,Bs0,hsz]
 have up₄:∀b o,b≠e->h₁.get? b=some o->h₄.get? b=some o:=λb o hb q=>by
  rw[<-hh₄];exact Ab0 _ (hs₃.extBut b o hb (hs₂.extBut b o hb q))
 show wpAny _ _ (Builtin.SmallTypes.ownedTupleIsFree (.ref e) >>= λ_=>_) _ _ {h₄,g,d,tk+1,os};rw[hsz];refine Aa1 ?_;unfold Builtin.SmallTypes.ownedTupleIsFree;refine Aa1 (Ae1 he₄ rfl (x:=.none) rfl (Ac1 ?_));simp only[if_true];refine Aa1 (Aj1 (Aa1 (Ae1 he₄ rfl (x:=old) rfl ?_)));refine Aa1 (Ag1 he₄ 'd' λh₅ he₅ hs₅=>?_);have hs₅:Heap.SameBut e h₄ h₅:=hs₅;have he₅:IsEnum h₅ e it ((i:Int)+1) x:=he₅;show wpAny _ _ (Builtin.SmallTypes.ownedTupleHandOut (.ref e) (.ref hp.objs.size) >>= λ_=>_) _ _ {h₅,g,d,tk+1,os};refine Aa1 ?_;unfold Builtin.SmallTypes.ownedTupleHandOut;refine Aa1 (Ag1 he₅ 'd' λh₆ he₆ hs₆=>?_);have hs₆:Heap.SameBut e h₅ h₆:=hs₆;have he₆:IsEnumOut h₆ e it ((i:Int)+1) x hp.objs.size:=he₆;refine Ag1 he₆ 'd' λh₇ he₇ hs₇=>?_
 have hs₇:Heap.SameBut e h₆ h₇:=hs₇;have he₇:IsEnumOut h₇ e it ((i:Int)+1) x hp.objs.size:=he₇;have up₇:∀b o,b≠e->h₄.get? b=some o->h₇.get? b=some o:=λb o hb q=>hs₇.extBut b o hb (hs₆.extBut b o hb (hs₅.extBut b o hb q))
 refine Aa1 (wpAny_letGo (Ac1 {_,rfl,hQ h₇ he₇ (hT h₁ h₇ t₁ λo q=>up₇ _ o (Ne.symm hne) (up₄ _ o (Ne.symm hne) q)) (up₇ _ _ hel ht₄) (by rw[hs₇.1,hs₆.1,hs₅.1,hz₄]) λb o hb hi q=>up₇ b o hb (up₄ b o hb (hs₁.extBut b o hi q))}))
end PySem
namespace L2
def Inv.turnedT{fp:List Addr}{p:Addr}{vs:List V}{its:List Value}{t':Nat}(I:Inv X A3 Y H s)(hf:∀b∈fp,vm4 X A3 H b)(k:∀b o,b∉fp->s.heap.get? b=some o->h'.get? b=some o)(hp:s.heap.objs.size<=p)(hv:vc8 vs its)(hz:vs.length<=sizeLine)(ht:IsTup h' p its.toArray)(hd:NoD h' p):Inv X A3 Y (upd H p (.tup vs)) { s with heap:=h',toks:=t' }:=by
 have hn:H p=none:=I.hok.fresh hp;have nfp:∀b u,H b=some u->b∉fp:=λb u e z=>by rw[(hf b z).1] at e;cases e
 have old:∀b u,H b=some u->upd H p (.tup vs) b=some u:=λb u e=>by rw[za8 (zb5 e hn)];exact e
 refine I.step (g':=s.gens) (d':=s.drawn) (t':=t') (ch:=fp) (λb hb=>{(hf b hb).2.2.2.1,(hf b hb).2.1,(hf b hb).2.2.2.2.1,(hf b hb).2.2.2.2.2}) (λb o _ _ hc e _=>k b o hc e) (λb o _ _ hc e _=>{o.slots,k b o hc e})
  (λb o _ e n=>by rw[za8 (As0 (Az0 (Heap.lt_size e) hp))];exact n) (λb o hc e=>{o,k b o hc e}) (λb xs e=>old b _ e) (λb o u e=>old b _ e) (λb ps e=>{#[],by rw[old b _ e];simp}) (λm hm=>?_) (λb u e=>?_) I.bare
 ·obtain⟨o,es,ep,ho,r⟩:=hm
  exact{o,es,ep,k _ o (λz=>(hf _ z).2.1 rfl) ho,r}
 ·by_cases hb:b=p
  ·subst hb
   rw[zb3] at e;cases e;exact⟨hz,its,hv,ht,hd⟩
  ·rw[za8 hb] at e
   refine(I.hok b u e).stay (λd v hd q=>k d v ?_ q) (λd q=>old d _ q) λd xs q=>old d _ q
   rcases hd with z | z
   ·rw[z];exact nfp b u e
   ·exact nfp d _ z
def Inv.turnedF{fp:List Addr}{t':Nat}(I:Inv X A3 Y H s)(hf:∀b∈fp,vm4 X A3 H b)(k:∀b o,b∉fp->s.heap.get? b=some o->h'.get? b=some o):Inv X A3 Y H { s with heap:=h',toks:=t' }:=by
 have nfp:∀b u,H b=some u->b∉fp:=λb u e z=>by rw[(hf b z).1] at e;cases e
 refine I.step (g':=s.gens) (d':=s.drawn) (t':=t') (ch:=fp) (λb hb=>{(hf b hb).2.2.2.1,(hf b hb).2.1,(hf b hb).2.2.2.2.1,(hf b hb).2.2.2.2.2}) (λb o _ _ hc e _=>k b o hc e) (λb o _ _ hc e _=>{o.slots,k b o hc e})
  (λb o _ e n=>n) (λb o hc e=>{o,k b o hc e}) (λb xs e=>e) (λb o u e=>e) (λb ps e=>{#[],by rw[e];simp}) (λm hm=>?_) (λb u e=>?_) I.bare
 ·obtain⟨o,es,ep,ho,r⟩:=hm
  exact{o,es,ep,k _ o (λz=>(hf _ z).2.1 rfl) ho,r}
 ·refine(I.hok b u e).stay (λd v hd q=>k d v ?_ q) (λd q=>q) λd xs q=>q
  rcases hd with z | z
  ·rw[z];exact nfp b u e
  ·exact nfp d _ z
instance ua7(b:Nat)(Sq:Hp->List V->Prop):It:=
 {λi H=>∃xs x,Sq H xs/\xs[i]?=some x,λi H v H'=>∃p x,H p=none/\v=.ref p/\H'=upd H p (.tup [.int (i+b:Nat),x])/\∀xs,Sq H xs->xs[i]?=some x,λi H=>∃xs,Sq H xs/\xs.length<=i}
noncomputable abbrev Ien(Sq:Hp->List V->Prop):It:=ua7 0 Sq
structure vw6(P:Program)(w:World)(K:PySem.W.Frag)(Sq:Hp->List V->Prop)(T:Nat->Heap->Prop)(it:Addr):Prop where
 obj:∀{i h},T i h->∃o,h.get? it=some o/\∀v,o.data=.cell v->False
 keep:∀{i h h'},T i h->(∀o,h.get? it=some o->h'.get? it=some o)->T i h'
 inj:∀{X A3 Y H s xs ys},X.K=K->Inv X A3 Y H s->Sq H xs->Sq H ys->xs=ys
 item:∀{X A3 Y H s i xs x},X.K=K->Inv X A3 Y H s->Sq H xs->xs[i]?=some x->T i s.heap->∃u,vc7 x u/\∀(A:Around) (E Q:Value->Shared->Prop),(∀h',T (i+1) h'->Heap.SameBut it s.heap h'->Q u { s with heap:=h' })->wpAny (model P w) A (Builtin.SmallTypes.nextOf (.ref it)) Q E s
 done:∀{X A3 Y H s i xs},X.K=K->Inv X A3 Y H s->Sq H xs->xs.length<=i->T i s.heap->∀(A:Around) (E Q:Value->Shared->Prop),A.handled=none->(∀h' e,Heap.ExtBut it s.heap h'->(∃o,h'.get? e=some o/\o.cls=.type "StopIteration")->E (.ref e) { s with heap:=h' })->wpAny (model P w) A (Builtin.SmallTypes.nextOf (.ref it)) Q E s
open H in
def yi1{P:Program}{w:World}{K:PySem.W.Frag}{elts:List Expr}{x1}{pos:Pos}{b:Nat}{Sq:Hp->List V->Prop}{T:Nat->Heap->Prop}{e it:Addr}(N:vw6 P w K Sq T it):vr8 P w K (.Tuple elts x1 pos) (ua7 b Sq) [e,it] e (λi h=>e≠it/\(∃old,IsEnum h e it (i+b:Nat) old)/\T i h) where
 mem:=by simp
 obj:=λi h st c hb=>by
  obtain⟨hne,⟨old,he⟩,hi⟩:=st;rcases Aj0.mp hb with z | hb
  ·subst z
   exact{_,he,λv z=>by
    have z':Data.fields _=Data.cell v:=z;cases z'}
  ·rw[Al0.mp hb]
   exact(N.obj hi).imp λo z=>⟨z.1,z.2⟩
 keep:=λi h h' st k=>by
  obtain⟨hne,⟨old,he⟩,hi⟩:=st;exact{hne,{old,k e 'd' _ he},N.keep hi λo q=>k it 'd' o q}
 item:=by
  intro X hP hw hK hc i A3 s Y H E I hf st hg;subst hP hw;obtain⟨xs,x,hq,hx⟩:=hg;obtain⟨hne,⟨old,he⟩,hi⟩:=st;obtain⟨u,ru,nx⟩:=N.item hK I hq hx hi;have hT:s.TypeIs (.ref e) "enumerate":={_,he,rfl};unfold pyNext;refine Aa1 (wpAny_attempt (wpAny_callSpecial?_slot (name:=Str.ofString "__next__") hT F.slot_enumerate_next (Ak1 F.slot_enumerate_next hT F.entry_enumerate_next (xy0 (T:=T (i+1)) he hne (λh h' t q=>N.keep t q) (λQ' hQ'=>nx _ _ _ hQ') λh' ho hi' ht hs kk=>Ac1 ?_) (F.args_enumerate_next_1 _))));refine{_,rfl,wpAny_letOwnedTupleGo_enum (s:={ s with heap:=h',toks:=s.toks+1 }) ho λh2 he2 sb2=>?_};have sb2:Heap.SameBut e h' h2:=sb2;have pe:s.heap.objs.size≠e:=Nat.ne_of_gt (Heap.lt_size he);have k2:∀b o,b∉[e,it]->s.heap.get? b=some o->h2.get? b=some o:=λb o hb q=>by
   have h1:b≠e:=λz=>hb (by simp[z])
   have h3:b≠it:=λz=>hb (by simp[z])
   exact sb2.extBut b o h1 (kk b o h1 h3 q)
  have tt:IsTup h2 s.heap.objs.size [Value.int (i+b:Nat) s.toks,u].toArray/\NoD h2 s.heap.objs.size:={{_,sb2.extBut _ _ pe ht,rfl,_,rfl},{_,sb2.extBut _ _ pe ht,rfl}};have nn:∀b∈[e,it],b≠s.heap.objs.size:=λb hb z=>by
   obtain⟨o1,ho1,_⟩:=N.obj hi;rcases Aj0.mp hb with y | y
   ·exact pe (by rw[<-z,y])
   ·rw[z] at y
    rw[<-Al0.mp y] at ho1;exact absurd (Heap.lt_size ho1) (Bz0 _)
  refine{.ref s.heap.objs.size,_,I.turnedT (p:=s.heap.objs.size) (vs:=[.int (i+b:Nat),x]) hf k2 (Ae0 _) (.cons {_,rfl} (.cons ru .nil)) (by show 2<=sizeLine;decide) tt.1 tt.2,rfl,{_,x,I.hok.fresh (Ae0 _),rfl,rfl,λys hy=>by rw[N.inj hK I hy hq];exact hx},{hne,{u,?_},?_},λb hb=>?_}
  ·have:((i+1+b:Nat):Int)=((i+b:Nat):Int)+1:=by omega
   rw[this];exact he2
  ·exact N.keep hi' λo q=>sb2.extBut _ _ (Ne.symm hne) q
  ·rw[za8 (nn b hb)];exact(hf b hb).1
 done:=by
  intro X hP hw hK hc i A3 s Y H E I hf st hg;subst hP hw;obtain⟨xs,hq,hx⟩:=hg;obtain⟨hne,⟨old,he⟩,hi⟩:=st;have hT:s.TypeIs (.ref e) "enumerate":={_,he,rfl};unfold pyNext;refine Aa1 (wpAny_attempt (wpAny_callSpecial?_slot (name:=Str.ofString "__next__") hT F.slot_enumerate_next (Ak1 F.slot_enumerate_next hT F.entry_enumerate_next ?_ (F.args_enumerate_next_1 _))));refine Aa1 (m:=field (.ref e) 2) (Ae1 he rfl (x:=.ref it) rfl ?_);refine Aa1 (N.done hK I hq hx hi _ _ _ (I.ok.hd hc) λh' x he' hx'=>?_);obtain⟨o,ho,hcls⟩:=hx';refine Aa1 (wpAny_isInstance (T:="StopIteration") (b:=true) ⟨o,ho,hcls⟩ isSubtype_stop (Ac1 {rfl,I.turnedF hf λb o hb q=>he' b o (λz=>hb (by simp[z])) q}))
 self:=λ_ _ _ _ _ st h=>let ⟨_,⟨_,he⟩,_⟩:=st;wpAny_pyIter_enum he h
def xw7{P:Program}{w:World}{K:PySem.W.Frag}(a it:Addr):vw6 P w K (λH xs=>SqT K H a xs) (λi h=>h.IsTupleIter it a i) it where
 obj:=λ⟨o,ho,_,d⟩=>{o,ho,λv z=>by rw[d] at z;cases z}
 keep:=λt q=>t.at q
 inj:=λhK I h1 h2=>I.tuple_inj (hK▸h1) (hK▸h2)
 item:=λhK I hq hx hi=>by
  obtain⟨its,rv,p,_⟩:=I.tuple (hK▸hq);obtain⟨u,hu,ru⟩:=rv.get hx;exact{u,ru,λA E Q hQ=>zo0 hi p (by simpa using hu) hQ}
 done:=λhK I hq hx hi A E Q hh h=>by
  obtain⟨its,rv,p,_⟩:=I.tuple (hK▸hq);have hl:=rv.length;exact zq1 hh hi p (by simp;omega) h
open H in
def xj6{P:Program}{w:World}{K:PySem.W.Frag}{elts:List Expr}{x1}{pos:Pos}(a e it:Addr):vr8 P w K (.Tuple elts x1 pos) (Ien λH xs=>SqT K H a xs) [e,it] e (λi h=>e≠it/\(∃old,IsEnum h e it i old)/\h.IsTupleIter it a i):=yi1 (xw7 a it)
section
variable{x1:Nat}
instance un1(K:PySem.W.Frag)(ta:TA):TI:=λY H R=>ta Y H λvs H1=>∃a xs,vs=[.ref a]/\SqT K H1 a xs/\R (Ien λH xs=>SqT K H a xs) H1
theorem wc8(hg:Gl X "enumerate")(hm:X.mg "enumerate" = none)(ha:PA X [a] ta)(hs:autoParam (starEach [a] X.env=[(false,eval a X.env)]) uR):PI X (.Tuple elts x1 tpos) (.Call (.Name "enumerate" p) [a] [] pos) (un1 X.K ta):=by
 intro A3 s Y H R I h;refine Call_ (zz8 I hg hm boot_enumerate (PyProof.Rows.callWith_type1 (thn (ha pos A3 s Y H _ I h) λus s1 hI106=>?_) hs rfl));obtain⟨vs,H1,I1,r1,q1⟩:=hI106;obtain⟨l,xs,rfl,hq,q⟩:=q1;cases r1 with
 | cons r rr=>
   cases rr;cases r;obtain⟨its,rv,pt,hz⟩:=I1.tuple hq;refine yp8 (show s1.heap.IsTuple l its.toArray from pt) λh' he hi kk=>?_
   refine wpAny_pyIter_enum (s:={ s1 with heap:=h' }) he ?_;refine{s1.heap.objs.size+1,[s1.heap.objs.size+1,s1.heap.objs.size],_,_,H1,rfl,I1.kept (t':=s1.toks) kk,xj6 l _ _,{Nat.succ_ne_self _,{_,he},hi},λb hb=>?_,q};have hb:s1.heap.objs.size<=b:=by
    rcases Aj0.mp hb with z | z
    ·rw[z];exact Nat.le_succ _
    ·have z:b=s1.heap.objs.size:=by simpa using z
     exact Cr0 z.symm
   exact I1.fpOk hb (I1.hok.fresh hb)
variable{S:Type}
instance vo3(b:Nat)(l:List D):List D:=(l.zipIdx b).map λp=>.tup [.int p.2,p.1]
theorem yb7{b:Nat}{l:List D}{i:Nat}{d:D}(h:(vo3 b l)[i]?=some d):∃x,l[i]?=some x/\d=.tup [.int (i+b:Nat),x]:=by
 unfold vo3 at h;rw[Af0,List.getElem?_zipIdx] at h;cases q:l[i]? with
 | none=>rw[q] at h;cases h
 | some x=>rw[q] at h;cases h;exact{x,rfl,by rw[Nat.add_comm]}
def zp2(b:Nat)(l:List D):(vo3 b l).length=l.length:=by unfold vo3;rw[Aa0,List.length_zipIdx]
noncomputable abbrev yb6(l:List D):List D:=vo3 0 l
instance vu6:List D->Option (List D)
 | [.tup l]=>if D.immL l=true then some (yb6 l) else none
 | _=>none
def ys7{i:Nat}(h:(yb6 l)[i]?=some d):∃x,l[i]?=some x/\d=.tup [.int i,x]:=yb7 h
def ye0(l:List D):(yb6 l).length=l.length:=zp2 0 l
def yf8{b:Nat}{Y:St}{Z:Rho}{H1:Hp}{l:List D}{xs:List V}{Sq:Hp->List V->Prop}(s0:∀(A':Addr->Prop) (H':Hp),vd1 (Av c Y Z) A' H1 H'->Sq H' xs)(i1:IsL c.K (Av c Y Z) H1 l xs):xi7 c Y Z H1 (ua7 b Sq) (vo3 b l):=by
 intro c' hK' Y2 Z2 H2 st2 k R2 ok2 j;have s2:Sq H2 xs:=s0 _ _ k;have i2:IsL c.K (Av c' Y2 Z2) H2 l xs:=i1.mono k;refine{λd hd=>?_,λhl=>{xs,s2,by rw[zp2] at hl;rw[<-i2.length];exact hl}};obtain⟨y,hy,rfl⟩:=yb7 hd;obtain⟨v1,hv,iv⟩:=i2.get hy;refine{⟨xs,v1,s2,hv⟩,?_};rintro x H3 ⟨pp,x',hpn,rfl,rfl,hx⟩;have:=hx xs s2;rw[hv] at this;cases this;have sm:vk5 H2 (upd H2 pp (.tup [.int (j+b:Nat),v1])):=λb o hb=>by rw[za8 (zb5 hb hpn)];exact hb
 refine{sm,Is.tup zb3 (IsL.cons.mpr {_,_,rfl,Is.int_iff.mpr rfl,IsL.one ?_})};exact iv.mono (zh7 (λb o hb _=>sm b o hb) λb o a hb=>{a,sm b o hb})
open H in
def wr7(hK:c.K=X.K)(hg:Gl X "enumerate")(hm:X.mg "enumerate" = none)(ha:DA X c [a] f)(hs:autoParam (starEach [a] X.env=[(false,eval a X.env)]) uR):DI X c (.Tuple elts x1 tpos) (.Call (.Name "enumerate" p) [a] [] pos) (vk8 S vu6 f):=
 (wc8 hg hm ha hs).imp λY H R hI30=>by
  obtain⟨Z,st,R0,ok,w⟩:=hI30;refine{Z,st,R0,ok,za6 (za2.mp w) (λl st1 q vs H1 e ok1 z=>?_) λx st1 q=>q};obtain⟨m,e1,q⟩:=za9.mp q;unfold vu6 at e1;split at e1
  ·rename_i l
   split at e1
   ·rename_i im
    cases e1;obtain⟨v,r,e2,i2,i3⟩:=IsL.cons.mp z;obtain⟨a,xs,ea,s0,i⟩:=Is.tup_iff.mp i2;have s:SqT c.K H1 a xs:=.of s0;rw[IsL.nil.mp i3,ea] at e2;exact{a,xs,e2,hK▸s,q _ H1 e ok1 (yf8 (λA' H' k=>by rw[<-hK];exact .of (k.tup a xs s0)) (IsL.ofImm im i))}
   ·cases e1
  ·cases e1
end
def zr1{bs:List Bool}:(List.range bs.length).all (λi=>bs.getD i false)=bs.all id:=by
 apply Bool.eq_iff_iff.mpr;simp only[Cm0,Bw0,id];constructor
 ·intro h b hb
  obtain⟨i,hi,e⟩:=List.mem_iff_getElem.mp hb;have:=h i hi;rw[Cc0,Ad0 hi] at this;rw[<-e];exact this
 ·intro h i hi
  rw[Cc0,Ad0 hi];exact h _ (List.getElem_mem hi)
def xp2{bs:List Bool}:(List.range bs.length).any (λi=>bs.getD i false)=bs.any id:=by
 apply Bool.eq_iff_iff.mpr;simp only[List.any_eq_true,Bw0,id];constructor
 ·rintro ⟨i,hi,h⟩
  rw[Cc0,Ad0 hi] at h;exact{_,List.getElem_mem hi,h}
 ·rintro ⟨b,hb,h⟩
  obtain⟨i,hi,e⟩:=List.mem_iff_getElem.mp hb;refine{i,hi,?_};rw[Cc0,Ad0 hi,e];exact h
def xi2{bs:List Bool}{its:List Value}(r:vc8 (bs.map V.bl) its){i:Nat}{v:Value}(h:its.toArray[i]?=some v):v=.bool (bs.getD i false):=by
 have hi:i<its.length:=by
  have:=(Array.getElem?_eq_some_iff.mp h).1;simpa using this
 have hl:=r.length;rw[Aa0] at hl;have hb:i<bs.length:=by omega
 obtain⟨u,hu,ru⟩:=r.get (i:=i) (x:=.bl bs[i]) (by rw[Af0,Ad0 hb];rfl);have:its[i]?=some v:=by simpa using h
 rw[hu] at this;cases this;rw[Cc0,Ad0 hb];exact ru
def xi1(hc:X.calm=true):vf3 X (.builtin "all") (λxs H Q=>∃(a:Addr) (bs:List Bool),xs=[.ref a]/\SqL X.K H a (bs.map V.bl)/\Q (.bl (bs.all id)) H):=by
 intro A3 s Y H xs us Q I r h;obtain⟨a,bs,rfl,hq,q⟩:=h;obtain⟨u,rfl,r1⟩:=vh6 r;cases r1;obtain⟨its,rv,p,hz⟩:=I.list hq;have hh:X.A.in1.handled=none:=I.ok.hd hc;have lt:a<s.heap.objs.size:=by obtain⟨o,e,_⟩:=p.isList;exact Heap.lt_size e
 refine call_all_walk (wpAny_pyIter_list p.isList {_,_,_,_,_,_,λi=>bs.getD i false,rfl,Walks.list hh s.heap.objs.size a (As0 lt) its.toArray,{{_,Ag0 _ rfl,rfl,rfl},p.isList.push _},?_,?_})
 ·intro i v Q' E' s' hP hQ
  rw[xi2 rv hP];exact Ai1 hQ
 ·intro h' tk hk
  have e:(List.range its.toArray.size).all (λi=>bs.getD i false)=bs.all id:=by
   have hl:=rv.length;rw[Aa0] at hl;rw[Ai0,<-hl,zr1]
  rw[e];refine{.bl _,H,?_,rfl,q};refine I.kept (t':=tk) λb o e=>hk b o (λz=>?_) (Ab0 _ e)
  have z:b=s.heap.objs.size:=by simpa using z
  have lt:=Heap.lt_size e;rw[z] at lt;exact Bz0 _ lt
def wg3(hc:X.calm=true):vf3 X (.builtin "any") (λxs H Q=>∃(a:Addr) (bs:List Bool),xs=[.ref a]/\SqL X.K H a (bs.map V.bl)/\Q (.bl (bs.any id)) H):=by
 intro A3 s Y H xs us Q I r h;obtain⟨a,bs,rfl,hq,q⟩:=h;obtain⟨u,rfl,r1⟩:=vh6 r;cases r1;obtain⟨its,rv,p,hz⟩:=I.list hq;have hh:X.A.in1.handled=none:=I.ok.hd hc;have lt:a<s.heap.objs.size:=by obtain⟨o,e,_⟩:=p.isList;exact Heap.lt_size e
 refine call_any_walk (wpAny_pyIter_list p.isList {_,_,_,_,_,_,λi=>bs.getD i false,rfl,Walks.list hh s.heap.objs.size a (As0 lt) its.toArray,{{_,Ag0 _ rfl,rfl,rfl},p.isList.push _},?_,?_})
 ·intro i v Q' E' s' hP hQ
  rw[xi2 rv hP];exact Ai1 hQ
 ·intro h' tk hk
  have e:(List.range its.toArray.size).any (λi=>bs.getD i false)=bs.any id:=by
   have hl:=rv.length;rw[Aa0] at hl;rw[Ai0,<-hl,xp2]
  rw[e];refine{.bl _,H,?_,rfl,q};refine I.kept (t':=tk) λb o e=>hk b o (λz=>?_) (Ab0 _ e)
  have z:b=s.heap.objs.size:=by simpa using z
  have lt:=Heap.lt_size e;rw[z] at lt;exact Bz0 _ lt
open PySem.SeqAt
mutual
noncomputable def D.eqq:D->D->Option Bool
 | .int i,.int j=>some (i == j)
 | .str i,.str j=>some (i == j)
 | .bl i,.bl j=>some (i == j)
 | .non,.non=>some true
 | .tup l,.tup m=>D.eqL l m
 | .lst l,.lst m=>if l.length=m.length then D.eqL l m else some false
 | .lst l,.fl m=>if l.length=m.length then D.eqL l m else some false
 | .fl l,.lst m=>if l.length=m.length then D.eqL l m else some false
 | .fl l,.fl m=>if l.length=m.length then D.eqL l m else some false
 | _,_=>none
noncomputable def D.eqL:List D->List D->Option Bool
 | [],[]=>some true
 | [],_::_=>some false
 | _::_,[]=>some false
 | a::l,b::m=>(D.eqq a b).bind λx=>(D.eqL l m).map λy=>x&&y
end
mutual
noncomputable def D.dep:D->Nat
 | .tup l=>D.depL l+1
 | .lst l=>D.depL l+1
 | .fl l=>D.depL l+1
 | _=>0
noncomputable def D.depL:List D->Nat
 | []=>0
 | d::l=>max (D.dep d) (D.depL l)
end
section
variable{X:Cx}{A3:List 'p'}{Y:St}{H:Hp}{s:Shared}{A1 A2:Addr->Prop}
mutual
theorem yo3(I:Inv X A3 Y H s):∀{d1 d2:D} {v:V} {b:Bool},Is X.K A1 H d1 v->Is X.K A2 H d2 v->D.eqq d1 d2=some b->b=true
 | .int i,d2,v,b,h1,h2,e=>by
   rw[Is.int_iff.mp h1] at h2;cases d2 with
   | int j=>have:=Is.int_iff.mp h2;cases this;unfold D.eqq at e;simpa using e.symm
   | _=>unfold D.eqq at e;cases e
 | .str i,d2,v,b,h1,h2,e=>by
   rw[Is.str_iff.mp h1] at h2;cases d2 with
   | str j=>have:=Is.str_iff.mp h2;cases this;unfold D.eqq at e;simpa using e.symm
   | _=>unfold D.eqq at e;cases e
 | .bl i,d2,v,b,h1,h2,e=>by
   rw[Is.bl_iff.mp h1] at h2;cases d2 with
   | bl j=>have:=Is.bl_iff.mp h2;cases this;unfold D.eqq at e;simpa using e.symm
   | _=>unfold D.eqq at e;cases e
 | .non,d2,v,b,h1,h2,e=>by
   cases d2 with
   | non=>unfold D.eqq at e;simpa using e.symm
   | _=>unfold D.eqq at e;cases e
 | .tup l,d2,v,b,h1,h2,e=>by
   cases d2 with
   | tup m=>
     obtain⟨a,vs,ea,s1,i1⟩:=Is.tup_sq h1;obtain⟨a',us,ea',s2,i2⟩:=Is.tup_sq h2;rw[ea] at ea';cases ea';have:=I.tuple_inj s1 s2;subst this;unfold D.eqq at e;exact yc0 I i1 i2 e
   | _=>unfold D.eqq at e;cases e
 | .lst l,d2,v,b,h1,h2,e=>by
   cases d2 with
   | lst m=>
     obtain⟨a,vs,ea,_,s1,i1⟩:=Is.lst_iff.mp h1;obtain⟨a',us,ea',_,s2,i2⟩:=Is.lst_iff.mp h2;rw[ea] at ea';cases ea';have:vs=us:=by rw[s1] at s2;cases s2;rfl
     subst this;unfold D.eqq at e;have hl:l.length=m.length:=by rw[i1.length,i2.length]
     rw[if_pos hl] at e;exact yc0 I i1 i2 e
   | fl m=>
     obtain⟨a,vs,ea,_,s1,i1⟩:=Is.lst_iff.mp h1;obtain⟨a',o,us,ea',s2,i2⟩:=Is.fl_iff.mp h2;rw[ea] at ea';cases ea';rw[s1] at s2;cases s2
   | _=>unfold D.eqq at e;cases e
 | .dct _ _,d2,v,b,h1,h2,e=>by cases d2<;>(unfold D.eqq at e;cases e)
 | .fl l,d2,v,b,h1,h2,e=>by
   cases d2 with
   | fl m=>
     obtain⟨a,o,vs,ea,s1,i1⟩:=Is.fl_iff.mp h1;obtain⟨a',o',us,ea',s2,i2⟩:=Is.fl_iff.mp h2;rw[ea] at ea';cases ea';have:vs=us:=by rw[s1] at s2;cases s2;rfl
     subst this;unfold D.eqq at e;have hl:l.length=m.length:=by rw[i1.length,i2.length]
     rw[if_pos hl] at e;exact yc0 I i1 i2 e
   | lst m=>
     obtain⟨a,o,vs,ea,s1,i1⟩:=Is.fl_iff.mp h1;obtain⟨a',us,ea',_,s2,i2⟩:=Is.lst_iff.mp h2;rw[ea] at ea';cases ea';rw[s1] at s2;cases s2
   | _=>unfold D.eqq at e;cases e
 | .fd _ _,d2,v,b,h1,h2,e=>by cases d2<;>(unfold D.eqq at e;cases e)
theorem yc0(I:Inv X A3 Y H s):∀{l m:List D} {vs:List V} {b:Bool},IsL X.K A1 H l vs->IsL X.K A2 H m vs->D.eqL l m=some b->b=true
 | [],m,vs,b,h1,h2,e=>by
   rw[IsL.nil.mp h1] at h2;cases m with
   | nil=>unfold D.eqL at e;simpa using e.symm
   | cons x r=>obtain⟨_,_,z,_⟩:=IsL.cons.mp h2;cases z
 | d::l,m,vs,b,h1,h2,e=>by
   obtain⟨v,r,ev,i1,j1⟩:=IsL.cons.mp h1;subst ev;cases m with
   | nil=>have:=IsL.nil.mp h2;cases this
   | cons x m=>
     obtain⟨v',r',ev',i2,j2⟩:=IsL.cons.mp h2;cases ev';unfold D.eqL at e;cases q1:D.eqq d x with
     | none=>rw[q1] at e;cases e
     | some b1=>
       cases q2:D.eqL l m with
       | none=>rw[q1,q2] at e;cases e
       | some b2=>
         rw[q1,q2] at e;have e:some (b1&&b2)=some b:=e;cases e;rw[yo3 I i1 i2 q1,yc0 I j1 j2 q2];rfl
end
instance vi7:List D->List D->List Bool
 | a::l,b::m=>((D.eqq a b).getD false)::vi7 l m
 | _,_=>[]
theorem zl8:∀(l m:List D),(vi7 l m).length=min l.length m.length
 | [],m=>by cases m<;>simp[vi7]
 | a::l,[]=>by simp[vi7]
 | a::l,b::m=>by simp[vi7,zl8 l m]
theorem yf7:∀{l m:List D} {b:Bool},D.eqL l m=some b->b=((vi7 l m).all id&&l.length == m.length)
 | [],[],b,e=>by unfold D.eqL at e;simpa [vi7] using e.symm
 | [],_::_,b,e=>by unfold D.eqL at e;simpa [vi7] using e.symm
 | _::_,[],b,e=>by unfold D.eqL at e;simpa [vi7] using e.symm
 | a::l,x::m,b,e=>by
   unfold D.eqL at e;cases q1:D.eqq a x with
   | none=>rw[q1] at e;cases e
   | some b1=>
     cases q2:D.eqL l m with
     | none=>rw[q1,q2] at e;cases e
     | some b2=>
       rw[q1,q2] at e;have e:some (b1&&b2)=some b:=e;cases e;rw[yf7 q2];simp[vi7,q1,Bool.and_assoc]
theorem xg4:∀{l m:List D} {b:Bool} {j:Nat} {x y:D},D.eqL l m=some b->l[j]?=some x->m[j]?=some y->D.eqq x y=some ((vi7 l m).getD j false)
 | [],_,_,_,_,_,_,h,_=>by simp at h
 | _::_,[],_,_,_,_,_,_,h=>by simp at h
 | a::l,c::m,b,j,x,y,e,h1,h2=>by
   unfold D.eqL at e;cases q1:D.eqq a c with
   | none=>rw[q1] at e;cases e
   | some b1=>
     cases q2:D.eqL l m with
     | none=>rw[q1,q2] at e;cases e
     | some b2=>
       cases j with
       | zero=>simp at h1 h2;subst h1 h2;simp[vi7,q1]
       | succ j=>
         have:=xg4 (j:=j) q2 (by simpa using h1) (by simpa using h2);simpa [vi7] using this
theorem yp0:∀{l:List D} {j:Nat} {x:D},l[j]?=some x->x.dep<=D.depL l
 | [],_,_,h=>by simp at h
 | a::l,0,x,h=>by simp at h;subst h;unfold D.depL;omega
 | a::l,j+1,x,h=>by
   have:=yp0 (j:=j) (l:=l) (x:=x) (by simpa using h);unfold D.depL;omega
instance D.plain:D->Bool
 | .tup _=>false
 | .lst _=>false
 | .dct _ _=>false
 | .fl _=>false
 | .fd _ _=>false
 | _=>true
theorem yk2{b:Bool}(hp:d1.plain=true)(e:D.eqq d1 d2=some b)(h1:Is X.K A1 H d1 v1)(h2:Is X.K A2 H d2 v2)(r1:vc7 v1 u1)(r2:vc7 v2 u2):EqAt A s u1 u2 b:=by
 cases d1 with
 | int i=>
   cases d2 with
   | int j=>
     have z1:=Is.int_iff.mp h1;have z2:=Is.int_iff.mp h2;subst z1 z2;obtain⟨t,rfl⟩:=r1;obtain⟨t',rfl⟩:=r2;unfold D.eqq at e;cases e;exact EqAt.int_int i t j t'
   | _=>unfold D.eqq at e;cases e
 | str i=>
   cases d2 with
   | str j=>
     have z1:=Is.str_iff.mp h1;have z2:=Is.str_iff.mp h2;subst z1 z2;obtain⟨t,rfl⟩:=r1;obtain⟨t',rfl⟩:=r2;unfold D.eqq at e;cases e;exact EqAt.str_str i t j t'
   | _=>unfold D.eqq at e;cases e
 | bl i=>
   cases d2 with
   | bl j=>
     have z1:=Is.bl_iff.mp h1;have z2:=Is.bl_iff.mp h2;subst z1 z2;cases r1;cases r2;unfold D.eqq at e;cases e;exact EqAt.bool_bool i j
   | _=>unfold D.eqq at e;cases e
 | non=>
   cases d2 with
   | non=>
     have z1:=Is.non_iff.mp h1;have z2:=Is.non_iff.mp h2;subst z1 z2;cases r1;cases r2;unfold D.eqq at e;cases e;exact EqAt.same _
   | _=>unfold D.eqq at e;cases e
 | tup l=>simp[D.plain] at hp
 | lst l=>simp[D.plain] at hp
 | dct _ _=>simp[D.plain] at hp
 | fl _=>simp[D.plain] at hp
 | fd _ _=>simp[D.plain] at hp
def zl0{n:Nat}{b:Bool}(e:D.eqL l m=some b)(i1:IsL X.K A1 H l vs)(i2:IsL X.K A2 H m us)(rv:vc8 vs its)(rv2:vc8 us its2)(ih:∀{d1 d2:D} {b:Bool} {v1 v2:V} {u1 u2:Value},d1.dep<=n->D.eqq d1 d2=some b->Is X.K A1 H d1 v1->Is X.K A2 H d2 v2->vc7 v1 u1->vc7 v2 u2->EqAt A s u1 u2 b)(hd:D.depL l<=n)(j:Nat)(h1:j<its.toArray.size)(h2:j<its2.toArray.size):EqAt A s its.toArray[j] its2.toArray[j] ((vi7 l m).getD j false):=by
 have h1':j<its.length:=by simpa using h1
 have h2':j<its2.length:=by simpa using h2
 have g1:j<l.length:=by rw[i1.length,rv.length];exact h1'
 have g2:j<m.length:=by rw[i2.length,rv2.length];exact h2'
 have x1:l[j]?=some l[j]:=Ad0 g1;have x2:m[j]?=some m[j]:=Ad0 g2;obtain⟨v1,hv1,z1⟩:=i1.get x1;obtain⟨v2,hv2,z2⟩:=i2.get x2;obtain⟨w1,hw1,r1⟩:=rv.get hv1;obtain⟨w2,hw2,r2⟩:=rv2.get hv2;have e1:its.toArray[j]=w1:=by
  rw[Ad0 h1'] at hw1;have:=Option.some.inj hw1;simpa using this
 have e2:its2.toArray[j]=w2:=by
  rw[Ad0 h2'] at hw2;have:=Option.some.inj hw2;simpa using this
 rw[e1,e2];exact ih (Ap0 (yp0 x1) hd) (xg4 e x1 x2) z1 z2 r1 r2
theorem xx9(I:Inv X A3 Y H s):∀(n:Nat) {A:Around} {d1 d2:D} {b:Bool} {v1 v2:V} {u1 u2:Value},d1.dep<=n->A.units+n<cLine->D.eqq d1 d2=some b->Is X.K A1 H d1 v1->Is X.K A2 H d2 v2->vc7 v1 u1->vc7 v2 u2->EqAt A s u1 u2 b:=by
 intro n;induction n with
 | zero=>
   intro A d1 d2 b v1 v2 u1 u2 hd hu e h1 h2 r1 r2;refine yk2 ?_ e h1 h2 r1 r2;cases d1 with
   | tup l=>unfold D.dep at hd;omega
   | lst l=>unfold D.dep at hd;omega
   | dct _ _=>cases d2<;>(unfold D.eqq at e;cases e)
   | fl _=>unfold D.dep at hd;omega
   | fd _ _=>cases d2<;>(unfold D.eqq at e;cases e)
   | _=>rfl
 | succ n ih=>
   intro A d1 d2 b v1 v2 u1 u2 hd hu e h1 h2 r1 r2;by_cases hp:d1.plain=true
   ·exact yk2 hp e h1 h2 r1 r2
   have hu0:A.units<cLine:=by omega
   have ih':∀{d1 d2:D} {b:Bool} {v1 v2:V} {u1 u2:Value},d1.dep<=n->D.eqq d1 d2=some b->Is X.K A1 H d1 v1->Is X.K A2 H d2 v2->vc7 v1 u1->vc7 v2 u2->EqAt A.in1 s u1 u2 b:=
    λhd e h1 h2 r1 r2=>ih (A:=A.in1) hd (by rw[Around.in1_units];omega) e h1 h2 r1 r2
   have lists:∀{l m:List D},d1.asL=some l->d2.asL=some m->D.depL l<=n->(if l.length=m.length then D.eqL l m else some false)=some b->EqAt A s u1 u2 b:=λ{l m} a1 a2 dl e'=>by
    obtain⟨a,vs,ea,s1,i1,_⟩:=Is.asL h1 a1;obtain⟨a',us,ea',s2,i2,_⟩:=Is.asL h2 a2;have hb:a=a'->b=true:=λz=>by
     subst z;rw[ea'] at h2;rw[ea] at h1;exact yo3 I h1 h2 e
    subst ea ea';cases r1;cases r2;by_cases z:a=a'
    ·rw[hb z,z];exact EqAt.same _
    ·obtain⟨its,rv,p1,_⟩:=I.list (.inl s1)
     obtain⟨its2,rv2,p2,_⟩:=I.list (.inl s2);have l1:its.toArray.size=l.length:=by rw[Ai0,<-rv.length,<-i1.length]
     have l2:its2.toArray.size=m.length:=by rw[Ai0,<-rv2.length,<-i2.length]
     by_cases hl:l.length=m.length
     ·rw[if_pos hl] at e'
      have q:=RcAt.lists (A:=A) (e:=λj=>(vi7 l m).getD j false) p1.isList p2.isList (by rw[l1,l2,hl]) hu0 (λj g1 g2=>zl0 e' i1 i2 rv rv2 ih' dl j g1 g2);have eb:=yf7 e';have el:l.length=(vi7 l m).length:=by rw[zl8];omega
      rw[l1,el,zr1] at q;rw[hl] at eb;simp at eb;rw[eb];exact EqAt.of_refs z q
     ·rw[if_neg hl] at e'
      cases e';exact EqAt.of_refs z (RcAt.lists_lengths p1.isList p2.isList (by rw[l1,l2];simpa using hl) hu0)
   cases d1 with
   | tup l=>
     cases d2 with
     | tup m=>
       obtain⟨a,vs,ea,s1,i1⟩:=Is.tup_sq h1;obtain⟨a',us,ea',s2,i2⟩:=Is.tup_sq h2;have hb:a=a'->b=true:=λz=>by
        subst z;rw[ea'] at h2;rw[ea] at h1;exact yo3 I h1 h2 e
       subst ea ea';cases r1;cases r2;by_cases z:a=a'
       ·rw[hb z,z];exact EqAt.same _
       ·obtain⟨its,rv,p1,_⟩:=I.tuple s1
        obtain⟨its2,rv2,p2,_⟩:=I.tuple s2;unfold D.eqq at e;have dl:D.depL l<=n:=by unfold D.dep at hd;omega
        have q:=RcAt.tuples (A:=A) (e:=λj=>(vi7 l m).getD j false) (show s.heap.IsTuple a its.toArray from p1) (show s.heap.IsTuple a' its2.toArray from p2) hu0 (λj g1 g2=>zl0 e i1 i2 rv rv2 ih' dl j g1 g2);have eb:=yf7 e;have l1:its.toArray.size=l.length:=by rw[Ai0,<-rv.length,<-i1.length]
        have l2:its2.toArray.size=m.length:=by rw[Ai0,<-rv2.length,<-i2.length]
        rw[l1,l2,<-zl8,zr1,<-eb] at q;exact EqAt.of_refs z q
     | _=>unfold D.eqq at e;cases e
   | lst l=>
     cases d2 with
     | lst m=>exact lists rfl rfl (by unfold D.dep at hd;omega) (by unfold D.eqq at e;exact e)
     | fl m=>exact lists rfl rfl (by unfold D.dep at hd;omega) (by unfold D.eqq at e;exact e)
     | _=>unfold D.eqq at e;cases e
   | dct _ _=>cases d2<;>(unfold D.eqq at e;cases e)
   | fl l=>
     cases d2 with
     | lst m=>exact lists rfl rfl (by unfold D.dep at hd;omega) (by unfold D.eqq at e;exact e)
     | fl m=>exact lists rfl rfl (by unfold D.dep at hd;omega) (by unfold D.eqq at e;exact e)
     | _=>unfold D.eqq at e;cases e
   | fd _ _=>cases d2<;>(unfold D.eqq at e;cases e)
   | _=>simp[D.plain] at hp
end
section
theorem wh8(I:Inv X A3 Y H s){n:Nat}{b:Bool}(hd:d1.dep<=n)(hu:A.units+n<cLine)(e:D.eqq d1 d2=some b)(h1:Is X.K A1 H d1 v1)(h2:Is X.K A2 H d2 v2)(r1:vc7 v1 u1)(r2:vc7 v2 u2) :
 RcAt A s u1 u2 b/\RcNeAt A s u1 u2 (!b):=by
 have hu0:A.units<cLine:=by omega
 have lists:∀{l m:List D},d1.asL=some l->d2.asL=some m->D.depL l+1<=n->(if l.length=m.length then D.eqL l m else some false)=some b->RcAt A s u1 u2 b/\RcNeAt A s u1 u2 (!b):=λ{l m} a1 a2 hd' e'=>by
  obtain⟨a,vs,ea,s1,i1,_⟩:=Is.asL h1 a1;obtain⟨a',us,ea',s2,i2,_⟩:=Is.asL h2 a2;subst ea ea';cases r1;cases r2;obtain⟨its,rv,p1,_⟩:=I.list (.inl s1);obtain⟨its2,rv2,p2,_⟩:=I.list (.inl s2);have l1:its.toArray.size=l.length:=by rw[Ai0,<-rv.length,<-i1.length]
  have l2:its2.toArray.size=m.length:=by rw[Ai0,<-rv2.length,<-i2.length]
  by_cases hl:l.length=m.length
  ·rw[if_pos hl] at e'
   have ih':∀{d1 d2:D} {b:Bool} {v1 v2:V} {u1 u2:Value},d1.dep<=n-1->D.eqq d1 d2=some b->Is X.K A1 H d1 v1->Is X.K A2 H d2 v2->vc7 v1 u1->vc7 v2 u2->EqAt A.in1 s u1 u2 b:=
    λhd e h1 h2 r1 r2=>xx9 I (n-1) (A:=A.in1) hd (by rw[Around.in1_units];omega) e h1 h2 r1 r2
   have q:=RcAt.lists (A:=A) (e:=λj=>(vi7 l m).getD j false) p1.isList p2.isList (by rw[l1,l2,hl]) hu0 (λj g1 g2=>zl0 e' i1 i2 rv rv2 ih' 'o' j g1 g2);have q':=RcNeAt.lists (A:=A) (e:=λj=>(vi7 l m).getD j false) p1.isList p2.isList (by rw[l1,l2,hl]) hu0 (λj g1 g2=>zl0 e' i1 i2 rv rv2 ih' 'o' j g1 g2);have eb:=yf7 e';have el:l.length=(vi7 l m).length:=by rw[zl8];omega
   rw[l1,el,zr1] at q q';have eb':b=(vi7 l m).all id:=by rw[eb,hl];simp
   rw[eb'];exact⟨q,q'⟩
  ·rw[if_neg hl] at e'
   cases e';exact{RcAt.lists_lengths p1.isList p2.isList (by rw[l1,l2];simpa using hl) hu0,RcNeAt.lists_lengths p1.isList p2.isList (by rw[l1,l2];simpa using hl) hu0}
 cases d1 with
 | int i=>
   cases d2 with
   | int j=>
     have z1:=Is.int_iff.mp h1;have z2:=Is.int_iff.mp h2;subst z1 z2;obtain⟨t,rfl⟩:=r1;obtain⟨t',rfl⟩:=r2;unfold D.eqq at e;cases e;exact{RcAt.int_int i t j t',RcNeAt.int_int i t j t'}
   | _=>unfold D.eqq at e;cases e
 | str i=>
   cases d2 with
   | str j=>
     have z1:=Is.str_iff.mp h1;have z2:=Is.str_iff.mp h2;subst z1 z2;obtain⟨t,rfl⟩:=r1;obtain⟨t',rfl⟩:=r2;unfold D.eqq at e;cases e;exact{RcAt.str_str i t j t',RcNeAt.str_str i t j t'}
   | _=>unfold D.eqq at e;cases e
 | bl i=>
   cases d2 with
   | bl j=>
     have z1:=Is.bl_iff.mp h1;have z2:=Is.bl_iff.mp h2;subst z1 z2;cases r1;cases r2;unfold D.eqq at e;cases e;exact{RcAt.bool_bool i j,RcNeAt.bool_bool i j}
   | _=>unfold D.eqq at e;cases e
 | non=>
   cases d2 with
   | non=>
     have z1:=Is.non_iff.mp h1;have z2:=Is.non_iff.mp h2;subst z1 z2;cases r1;cases r2;unfold D.eqq at e;cases e;exact⟨RcAt.none_none,RcNeAt.none_none⟩
   | _=>unfold D.eqq at e;cases e
 | tup l=>
   cases d2 with
   | tup m=>
     obtain⟨a,vs,ea,s1,i1⟩:=Is.tup_sq h1;obtain⟨a',us,ea',s2,i2⟩:=Is.tup_sq h2;subst ea ea';cases r1;cases r2;obtain⟨its,rv,p1,_⟩:=I.tuple s1;obtain⟨its2,rv2,p2,_⟩:=I.tuple s2;unfold D.eqq at e;have hd':D.depL l+1<=n:=by unfold D.dep at hd;exact hd
     have ih':∀{d1 d2:D} {b:Bool} {v1 v2:V} {u1 u2:Value},d1.dep<=n-1->D.eqq d1 d2=some b->Is X.K A1 H d1 v1->Is X.K A2 H d2 v2->vc7 v1 u1->vc7 v2 u2->EqAt A.in1 s u1 u2 b:=
      λhd e h1 h2 r1 r2=>xx9 I (n-1) (A:=A.in1) hd (by rw[Around.in1_units];omega) e h1 h2 r1 r2
     have q:=RcAt.tuples (A:=A) (e:=λj=>(vi7 l m).getD j false) (show s.heap.IsTuple a its.toArray from p1) (show s.heap.IsTuple a' its2.toArray from p2) hu0 (λj g1 g2=>zl0 e i1 i2 rv rv2 ih' 'o' j g1 g2);have q':=RcNeAt.tuples (A:=A) (e:=λj=>(vi7 l m).getD j false) (show s.heap.IsTuple a its.toArray from p1) (show s.heap.IsTuple a' its2.toArray from p2) hu0 (λj g1 g2=>zl0 e i1 i2 rv rv2 ih' 'o' j g1 g2);have eb:=yf7 e;have l1:its.toArray.size=l.length:=by rw[Ai0,<-rv.length,<-i1.length]
     have l2:its2.toArray.size=m.length:=by rw[Ai0,<-rv2.length,<-i2.length]
     rw[l1,l2,<-zl8,zr1,<-eb] at q q';exact⟨q,q'⟩
   | _=>unfold D.eqq at e;cases e
 | lst l=>
   cases d2 with
   | lst m=>exact lists rfl rfl (by unfold D.dep at hd;exact hd) (by unfold D.eqq at e;exact e)
   | fl m=>exact lists rfl rfl (by unfold D.dep at hd;exact hd) (by unfold D.eqq at e;exact e)
   | _=>unfold D.eqq at e;cases e
 | dct _ _=>cases d2<;>(unfold D.eqq at e;cases e)
 | fl l=>
   cases d2 with
   | lst m=>exact lists rfl rfl (by unfold D.dep at hd;exact hd) (by unfold D.eqq at e;exact e)
   | fl m=>exact lists rfl rfl (by unfold D.dep at hd;exact hd) (by unfold D.eqq at e;exact e)
   | _=>unfold D.eqq at e;cases e
 | fd _ _=>cases d2<;>(unfold D.eqq at e;cases e)
instance ue5(K:PySem.W.Frag)(neg:Bool):R2:=λx y H Q=>∃(A:Addr->Prop) (d1 d2:D) (b:Bool),Is K A H d1 x/\Is K A H d2 y/\d1.dep<=30/\D.eqq d1 d2=some b/\Q (.bl (if neg then !b else b)) H
def zg7{k:Nat}(hr:vd5 k X.A):OpR X (compareOp .Eq) (ue5 X.K false):=by
 intro A3 s Y H x y v u Q I rx ry h;obtain⟨A,d1,d2,b,h1,h2,hd,e,q⟩:=h;exact(wh8 I (n:=30) hd (by have:=hr.units;omega) e h1 h2 rx ry).1 _ _ _ _ {.bl b,H,I,rfl,q}
def zn9{k:Nat}(hr:vd5 k X.A):OpR X (compareOp .NotEq) (ue5 X.K true):=by
 intro A3 s Y H x y v u Q I rx ry h;obtain⟨A,d1,d2,b,h1,h2,hd,e,q⟩:=h;exact(wh8 I (n:=30) hd (by have:=hr.units;omega) e h1 h2 rx ry).2 _ _ _ _ {.bl (!b),H,I,rfl,q}
instance inD(x:D):List D->Option Bool
 | []=>some false
 | d::l=>(D.eqq d x).bind λb=>(inD x l).map λc=>b||c
instance ue4(K:PySem.W.Frag)(neg:Bool):R2:=λx y H Q=>∃(A:Addr->Prop) (d:D) (l:List D) (b:Bool),Is K A H d x/\(Is K A H (.lst l) y\/Is K A H (.tup l) y)/\D.depL l<=30/\inD d l=some b/\Q (.bl (if neg then !b else b)) H
open Classical in
instance vr7(x:D)(l:List D)(us:List Value)(u:Value):Bool:=decide (∃(j:Nat) (d:D),us[j]?=some u/\l[j]?=some d/\D.eqq d x=some true)
def yc3:vr7 x l us u=true↔∃(j:Nat) (d:D),us[j]?=some u/\l[j]?=some d/\D.eqq d x=some true:=by
 classical
 unfold vr7;exact decide_eq_true_iff
theorem yu5:∀{l:List D} {b:Bool},inD x l=some b->∀(j:Nat) (d:D),l[j]?=some d->∃c,D.eqq d x=some c
 | [],_,_,_,_,h=>by simp at h
 | a::l,b,e,j,d,h=>by
   unfold inD at e;cases q1:D.eqq a x with
   | none=>rw[q1] at e;cases e
   | some c=>
     cases q2:inD x l with
     | none=>rw[q1,q2] at e;cases e
     | some c2=>
       cases j with
       | zero=>simp at h;subst h;exact⟨c,q1⟩
       | succ j=>exact yu5 q2 j d (by simpa using h)
theorem xw9:∀{l:List D} {b:Bool},inD x l=some b->(b=true↔∃(j:Nat) (d:D),l[j]?=some d/\D.eqq d x=some true)
 | [],b,e=>by
   unfold inD at e;cases e;constructor
   ·intro h;cases h
   ·rintro ⟨j,d,h,_⟩;simp at h
 | a::l,b,e=>by
   unfold inD at e;cases q1:D.eqq a x with
   | none=>rw[q1] at e;cases e
   | some c=>
     cases q2:inD x l with
     | none=>rw[q1,q2] at e;cases e
     | some c2=>
       rw[q1,q2] at e;have e:some (c||c2)=some b:=e;cases e;have ih:=xw9 q2;rw[Bool.or_eq_true];constructor
       ·rintro (h | h)
        ·subst h;exact{0,a,rfl,q1}
        ·obtain⟨j,d,h1,h2⟩:=ih.mp h
         exact{j+1,d,by simpa using h1,h2}
       ·rintro ⟨j,d,h1,h2⟩
        cases j with
        | zero=>
          simp at h1;subst h1;rw[q1] at h2;cases h2;exact .inl rfl
        | succ j=>exact .inr (ih.mpr {j,d,by simpa using h1,h2})
def yb8(I:Inv X A3 Y H s){b:Bool}(hd:D.depL l<=30)(hu:A.units+30<cLine)(e:inD x l=some b)(i:IsL X.K A1 H l vs)(rv:vc8 vs its)(h:Is X.K A1 H x v)(r:vc7 v u) :
 (∀y∈its.toArray,EqAt A s y u (vr7 x l its y))/\its.toArray.any (vr7 x l its)=b:=by
 have at_:∀(j:Nat) (y:Value),its[j]?=some y->∃d w,l[j]?=some d/\Is X.K A1 H d w/\vc7 w y:=λj y hy=>by
  have hj:j<its.length:=(Ac0.mp hy).1;have hl:j<l.length:=by rw[i.length,rv.length];exact hj
  obtain⟨w,hw,iw⟩:=i.get (Ad0 hl);obtain⟨y',hy',ry⟩:=rv.get hw;rw[hy] at hy';cases hy';exact{_,w,Ad0 hl,iw,ry}
 have eqs:∀(j:Nat) (y:Value) (d:D) (c:Bool),its[j]?=some y->l[j]?=some d->D.eqq d x=some c->EqAt A s y u c:=λj y d c hy hd' ec=>by
  obtain⟨d2,w,h2,iw,ry⟩:=at_ j y hy;rw[hd'] at h2;cases h2;exact xx9 I 30 (Ap0 (yp0 hd') hd) hu ec iw h ry r
 constructor
 ·intro y hy
  by_cases hc:∃(j:Nat) (d:D),its[j]?=some y/\l[j]?=some d/\D.eqq d x=some true
  ·obtain⟨j,d,h1,h2,h3⟩:=hc
   have:vr7 x l its y=true:=yc3.mpr ⟨j,d,h1,h2,h3⟩;rw[this];exact eqs j y d true h1 h2 h3
  ·have:vr7 x l its y=false:=by cases q:vr7 x l its y with
    | false=>rfl
    | true=>exact(hc (yc3.mp q)).elim
   rw[this];obtain⟨j,hj,ej⟩:=List.mem_iff_getElem.mp (show y∈its by simpa using hy);have hy':its[j]?=some y:=by rw[Ad0 hj,ej]
   obtain⟨d,w,h2,iw,ry⟩:=at_ j y hy';obtain⟨c,ec⟩:=yu5 e j d h2;cases c with
   | false=>exact eqs j y d false hy' h2 ec
   | true=>exact(hc ⟨j,d,hy',h2,ec⟩).elim
 ·apply Bool.eq_iff_iff.mpr
  rw[xw9 e];have e1:its.toArray.any (vr7 x l its)=its.any (vr7 x l its):=by simp
  rw[e1,List.any_eq_true];constructor
  ·rintro ⟨y,_,hy⟩
   obtain⟨j,d,_,h2,h3⟩:=yc3.mp hy;exact⟨j,d,h2,h3⟩
  ·rintro ⟨j,d,h2,h3⟩
   have hj:j<its.length:=by rw[<-rv.length,<-i.length];exact(Ac0.mp h2).1
   refine{its[j],List.getElem_mem hj,?_};exact yc3.mpr {j,d,Ad0 hj,h2,h3}
def ww5{k:Nat}(hr:vd5 k X.A):OpR X (compareOp .In) (ue4 X.K false):=by
 intro A3 s Y H x y v u Q I rx ry h;obtain⟨A,d,l,b,h1,h2,hd,e,q⟩:=h;have hu:X.A.in1.units+30<cLine:=by rw[Around.in1_units];have:=hr.units;omega
 rcases h2 with h2 | h2
 ·obtain⟨a,vs,ea,_,s1,i1⟩:=Is.lst_iff.mp h2
  subst ea;cases ry;obtain⟨its,rv,p,_⟩:=I.list (.of s1);obtain⟨g1,g2⟩:=yb8 I hd hu e i1 rv h1 rx;exact in_listAt _ p.isList g1 {.bl b,H,I,by rw[g2];rfl,q}
 ·obtain⟨a,vs,ea,s1,i1⟩:=Is.tup_sq h2
  subst ea;cases ry;obtain⟨its,rv,p,_⟩:=I.tuple s1;obtain⟨g1,g2⟩:=yb8 I hd hu e i1 rv h1 rx;exact in_tupleAt _ p g1 {.bl b,H,I,by rw[g2];rfl,q}
def yd6{k:Nat}(hr:vd5 k X.A):OpR X (compareOp .NotIn) (ue4 X.K true):=by
 intro A3 s Y H x y v u Q I rx ry h;obtain⟨A,d,l,b,h1,h2,hd,e,q⟩:=h;have hu:X.A.in1.units+30<cLine:=by rw[Around.in1_units];have:=hr.units;omega
 rcases h2 with h2 | h2
 ·obtain⟨a,vs,ea,_,s1,i1⟩:=Is.lst_iff.mp h2
  subst ea;cases ry;obtain⟨its,rv,p,_⟩:=I.list (.of s1);obtain⟨g1,g2⟩:=yb8 I hd hu e i1 rv h1 rx;exact notIn_listAt _ p.isList g1 {.bl (!b),H,I,by rw[g2];rfl,q}
 ·obtain⟨a,vs,ea,s1,i1⟩:=Is.tup_sq h2
  subst ea;cases ry;obtain⟨its,rv,p,_⟩:=I.tuple s1;obtain⟨g1,g2⟩:=yb8 I hd hu e i1 rv h1 rx;exact notIn_tupleAt _ p g1 {.bl (!b),H,I,by rw[g2];rfl,q}
variable{S:Type}
instance oEq(neg:Bool)(a b:D):Option D:=if a.dep<=30 then (D.eqq a b).map λx=>.bl (if neg then !x else x) else none
instance oIn(neg:Bool)(a b:D):Option D:=match b with
 | .lst l=>if D.depL l<=30 then (inD a l).map λx=>.bl (if neg then !x else x) else none
 | .tup l=>if D.depL l<=30 then (inD a l).map λx=>.bl (if neg then !x else x) else none
 | _=>none
open H in
def zd5{K:PySem.W.Frag}{neg:Bool}(hK:c.K=K):OpD c (ue5 K neg) (oEq neg):=by
 subst hK;intro d1 d2 v1 v2 H st d Q ok z1 z2 e q;unfold oEq at e;split at e
 ·rename_i hd
  cases h:D.eqq d1 d2 with
  | none=>rw[h] at e;cases e
  | some b=>
    rw[h] at e;cases e;exact{_,d1,d2,b,z1,z2,hd,h,q _ H Ext.refl ok zq2}
 ·cases e
open H in
def xd8{K:PySem.W.Frag}{neg:Bool}(hK:c.K=K):OpD c (ue4 K neg) (oIn neg):=by
 subst hK;intro d1 d2 v1 v2 H st d Q ok z1 z2 e q;unfold oIn at e;split at e
 ·rename_i l
  split at e
  ·rename_i hd
   cases h:inD d1 l with
   | none=>rw[h] at e;cases e
   | some b=>
     rw[h] at e;cases e;exact{_,d1,l,b,z1,.inl z2,hd,h,q _ H Ext.refl ok zq2}
  ·cases e
 ·rename_i l
  split at e
  ·rename_i hd
   cases h:inD d1 l with
   | none=>rw[h] at e;cases e
   | some b=>
     rw[h] at e;cases e;exact{_,d1,l,b,z1,.inr z2,hd,h,q _ H Ext.refl ok zq2}
  ·cases e
 ·cases e
end
section
variable{X:Cx}{S:Type}{W:Wd S}{c:Dx W}{g:Gr}{a b e:Expr}{rest:List Expr}{pos:Pos}{fa fb fc:Fn S}{ga gb gc:Gr}
instance ua0(S:Type)(f1 f2:Fn S):Fn S:=λZ st=>(f1 Z st).bind λd st1=>match d with
 | .bl true=>f2 Z st1
 | .bl false=>.ok (.bl false) st1
 | _=>.bad
instance vz8(S:Type)(f1:Fn S):Fn S:=λZ st=>(f1 Z st).bind λd st1=>match d with
 | .bl b=>.ok (.bl (!b)) st1
 | _=>.bad
def xh0{op}(h:DE X c g a f):DE X c g (.BoolOp op [a] pos) f:=wv8 h
def yv7(ha:DE X c ga a fa)(hb:DE X c g (.BoolOp .And (b::rest) pos) fb):DE X c g (.BoolOp .And (a::b::rest) pos) (ua0 S fa fb):=
 (ww2 ha hb).imp λY H Q hI31=>by
  obtain⟨Z,st,R,ok,w⟩:=hI31;refine zf2 (Go.bind (g':=ga) (k:=λd Z st1=>match d with | .bl true=>fb Z st1 | .bl false=>.ok (.bl false) st1 | _=>.bad) R ok w) λv H1 hI107=>?_
  obtain⟨d,st1,R1,ok1,e1,z,w1⟩:=hI107;cases d with
  | bl k=>
    have zv:v=.bl k:=Is.bl_iff.mp (show Is c.K (λb=>¬W.mv b) H1 (.bl k) v from z.toR);refine{k,zv,?_};cases k with
    | true=>exact vz4 ⟨Z,st1,R1,ok1,w1⟩
    | false=>exact ub7 (w1 (.bl false) H1 Ext.refl ok1 (New.val R1 zq2 g))
  | _=>exact(show False from w1).elim
def va6(ha:DE X c ga a fa):DE X c g (.UnaryOp .Not a pos) (vz8 S fa):=
 (wv9 ha).imp λY H Q hI32=>by
  obtain⟨Z,st,R,ok,w⟩:=hI32;refine zf2 (Go.bind (g':=ga) (k:=λd Z st1=>match d with | .bl b=>.ok (.bl (!b)) st1 | _=>.bad) R ok w) λv H1 hI108=>?_
  obtain⟨d,st1,R1,ok1,e1,z,w1⟩:=hI108;cases d with
  | bl k=>
    have zv:v=.bl k:=Is.bl_iff.mp (show Is c.K (λb=>¬W.mv b) H1 (.bl k) v from z.toR);exact{k,zv,w1 (.bl (!k)) H1 Ext.refl ok1 (New.val R1 zq2 g)}
  | _=>exact(show False from w1).elim
instance xx7(S:Type)(o o':D->D->Option D)(f1 f2 f3:Fn S):Fn S:=λZ st=>(f1 Z st).bind λd1 st1=>(f2 Z st1).bind λd2 st2=>match o d1 d2 with
 | some (.bl true)=>(f3 Z st2).bind λd3 st3=>vd2 (o' d2 d3) st3
 | some (.bl false)=>.ok (.bl false) st2
 | _=>.bad
theorem wc0(hr:OpD c r o)(hr':OpD c r' o')(h:tD c g (xx7 S o o' fa fb fc) Y H Q):wh3 r r' (tD c ga fa) (tD c gb fb) (tD c gc fc) Y H Q:=by
 obtain⟨Z,st,R,ok,w⟩:=h;refine zf2 (Go.bind (g':=ga) (k:=λd1 Z st1=>(fb Z st1).bind λd2 st2=>match o d1 d2 with | some (.bl true)=>(fc Z st2).bind λd3 st3=>vd2 (o' d2 d3) st3 | some (.bl false)=>.ok (.bl false) st2 | _=>.bad) R ok w) λv1 H1 hI109=>?_
 obtain⟨d1,st1,R1,ok1,e1,z1,w1⟩:=hI109;refine zf2 (Go.bind (g':=gb) (k:=λd2 Z st2=>match o d1 d2 with | some (.bl true)=>(fc Z st2).bind λd3 st3=>vd2 (o' d2 d3) st3 | some (.bl false)=>.ok (.bl false) st2 | _=>.bad) R1 ok1 w1) λv2 H2 hI110=>?_
 obtain⟨d2,st2,R2,ok2,e2,z2,w2⟩:=hI110;cases q:o d1 d2 with
 | none=>simp only[q] at w2;exact(show False from w2).elim
 | some d=>
   simp only[q] at w2;cases d with
   | bl k=>
     refine hr d1 d2 v1 v2 H2 st2 (.bl k) _ ok2 (z1.toR.ext e2 ok1) z2.toR q λv H' e' ok' n=>?_
     refine{k,Is.bl_iff.mp n,?_};have R':=R2.ext ok2 e';cases k with
     | false=>exact ub7 (w2 (.bl false) H' e' ok' (New.val R2 zq2 g))
     | true=>
       refine vz4 ?_;have w3:Go c g Y (λZ st=>(fc Z st).bind λd3 st3=>vd2 (o' d2 d3) st3) H2 Q Z st2:=w2;refine zf2 (Go.bind (g':=gc) (k:=λd3 _ st3=>vd2 (o' d2 d3) st3) R' ok' (w3.from e' ok')) λv3 H3 hI111=>?_
       obtain⟨d3,st3,R3,ok3,e3,z3,w4⟩:=hI111;obtain⟨d,e5,q5⟩:=Go.done w4 ok3;exact hr' d2 d3 v2 v3 H3 st3 d Q ok3 ((z2.toR.ext e' ok2).ext e3 ok') z3.toR e5 λv H' a b n=>q5 v H' a b (n.val R3 g)
   | _=>exact(show False from w2).elim
def xh3(ho:OpR X (compareOp op) r)(ho':OpR X (compareOp op') r')(hr:OpD c r o)(hr':OpD c r' o')(ha:DE X c ga a fa)(hb:DE X c gb b fb)(hd:DE X c gc d fc)(hm:lastMarks [op,op'] [b,d]=false:=by with_unfolding_all rfl):DE X c g (.Compare a [op,op'] [b,d] pos) (xx7 S o o' fa fb fc):=
 (wd4 ho ho' ha hb hd hm).imp λY H Q h=>wc0 hr hr' h
instance D.isNon:D->Bool
 | .non=>true
 | _=>false
instance vl0(neg:Bool)(a b:D):Option D:=match b with
 | .non=>some (.bl (if neg then !a.isNon else a.isNon))
 | _=>none
theorem wj1{K:PySem.W.Frag}{A:Addr->Prop}{H:Hp}{d:D}{v:V}(h:Is K A H d v):(decide (v=V.non))=d.isNon:=by
 cases d with
 | non=>rw[Is.non_iff.mp h];rfl
 | bl b=>rw[Is.bl_iff.mp h];rfl
 | int i=>rw[Is.int_iff.mp h];rfl
 | str x=>rw[Is.str_iff.mp h];rfl
 | tup l=>obtain⟨a,vs,e,_⟩:=Is.tup_sq h;rw[e];rfl
 | lst l=>obtain⟨a,vs,e,_⟩:=Is.lst_iff.mp h;rw[e];rfl
 | dct k l=>obtain⟨a,vs,e,_⟩:=Is.dct_iff.mp h;rw[e];rfl
 | fl l=>obtain⟨a,o,vs,e,_⟩:=Is.fl_iff.mp h;rw[e];rfl
 | fd k l=>obtain⟨a,o,vs,kk,e,_⟩:=Is.fd_iff.mp h;rw[e];rfl
theorem xd7:OpD c (λx y H Q=>y=.non/\Q (.bl (decide (x=.non))) H) (vl0 false):=by
 intro d1 d2 v1 v2 H st d Q ok z1 z2 e q;cases d2 with
 | non=>
   cases e;refine{Is.non_iff.mp z2,?_};rw[wj1 z1];exact q _ H Ext.refl ok zq2
 | _=>cases e
theorem wo7:OpD c (λx y H Q=>y=.non/\Q (.bl (!decide (x=.non))) H) (vl0 true):=by
 intro d1 d2 v1 v2 H st d Q ok z1 z2 e q;cases d2 with
 | non=>
   cases e;refine{Is.non_iff.mp z2,?_};rw[wj1 z1];exact q _ H Ext.refl ok zq2
 | _=>cases e
instance uk5(S:Type)(t:FnT S)(f1 f2:Fn S):Fn S:=λZ st=>(t Z st).bind λk st1=>if k=true then f1 Z st1 else f2 Z st1
instance uk4(S:Type)(f:Fn S):Fn S:=λZ st=>(f Z st).bind λd st1=>match d with
 | .int i=>.ok (.int (-i)) st1
 | _=>.bad
def va8(ha:DE X c ga a fa):DE X c g (.UnaryOp .USub a pos) (uk4 S fa):=
 (ue8 wt9 ha).imp λY H Q hI33=>by
  obtain⟨Z,st,R,ok,w⟩:=hI33;refine zf2 (Go.bind (g':=ga) (k:=λd _ st1=>match d with | .int i=>.ok (.int (-i)) st1 | _=>.bad) R ok w) λv H1 hI112=>?_
  obtain⟨d,st1,R1,ok1,e1,z,w1⟩:=hI112;cases d with
  | int i=>exact{i,Is.int_iff.mp (show Is c.K (λb=>¬W.mv b) H1 (.int i) v from z.toR),w1 (.int (-i)) H1 Ext.refl ok1 (New.val R1 zl2 g)}
  | _=>exact(show False from w1).elim
end
instance D.ty:D->String
 | .non=>"NoneType"
 | .bl _=>"bool"
 | .int _=>"int"
 | .str _=>"str"
 | .tup _=>"tuple"
 | .lst _=>"list"
 | .dct _ _=>"dict"
 | .fl _=>"list"
 | .fd _ _=>"dict"
inductive Bt where
 | int | bool | str | list | tuple | dict
instance Bt.nm:Bt->String
 | .int=>"int"
 | .bool=>"bool"
 | .str=>"str"
 | .list=>"list"
 | .tuple=>"tuple"
 | .dict=>"dict"
instance isI(T:Bt)(d:D):Bool:=match T,d with
 | .int,.int _=>true
 | .int,.bl _=>true
 | .bool,.bl _=>true
 | .str,.str _=>true
 | .list,.lst _=>true
 | .list,.fl _=>true
 | .tuple,.tup _=>true
 | .dict,.dct _ _=>true
 | .dict,.fd _ _=>true
 | _,_=>false
def wp8(K:PySem.W.Frag)(T:Bt)(d:D):PySem.W.kitOne K (.type d.ty) (.type T.nm)=some (isI T d):=by
 cases T<;>cases d<;>first | rfl | decide
section
variable{X:Cx}{A3:List 'p'}{Y:St}{H:Hp}{s:Shared}
theorem wq1(T:Bt)(I:Inv X A3 Y H s)(h:Is X.K A H d v)(r:vc7 v u)(hq:∀tk,Q (.bool (isI T d)) { s with toks:=tk }) :
 wpAny 'e' A0 (call (.builtin "isinstance") [u,.type T.nm]) Q E s:=by
 have e:=wp8 X.K T d;cases d with
 | non=>rw[Is.non_iff.mp h] at r;exact zk5 I r .non e hq
 | bl b=>rw[Is.bl_iff.mp h] at r;exact zk5 I r (.bl b) e hq
 | int i=>rw[Is.int_iff.mp h] at r;exact zk5 I r (.int i) e hq
 | str x=>rw[Is.str_iff.mp h] at r;exact zk5 I r (.str x) e hq
 | lst l=>obtain⟨a,vs,ea,_,e1,_⟩:=Is.lst_iff.mp h;rw[ea] at r;exact zk5 I r (.lst e1) e hq
 | fl l=>obtain⟨a,o,vs,ea,e1,_⟩:=Is.fl_iff.mp h;rw[ea] at r;exact zk5 I r (.frz e1) e hq
 | dct k l=>
   obtain⟨a,vs,ea,_,_,q⟩:=Is.dct_iff.mp h;rw[ea] at r;rcases q with⟨_,_,_,e1⟩ | ⟨_,_,_,e1⟩
   ·exact zk5 I r (.dK e1) e hq
   ·exact zk5 I r (.dT e1) e hq
 | fd k l=>
   obtain⟨a,ob,vs,kk,ea,_,_,e1,_⟩:=Is.fd_iff.mp h;rw[ea] at r;cases (show u=Value.ref a from r);obtain⟨_,_,_,xs,_,o,es,ep,h1,h2,_⟩:=(show vd4 X.prog X.w H s.heap a (.frz ob (.dT (kk.zip vs))) from I.hok a _ e1);exact PySem.W.kia_one PySem.W.kitx_dict I.kIn ⟨o,h1,h2.1⟩ e (λz=>nomatch z) hq
 | tup l=>
   obtain⟨a,vs,ea,s1,_⟩:=Is.tup_sq h;rw[ea] at r;cases r;obtain⟨its,_,⟨o,h1,h2,_⟩,_⟩:=I.tuple s1;exact PySem.W.kia_one PySem.W.kitx_tuple I.kIn ⟨o,h1,h2⟩ e (λz=>nomatch z) hq
variable{S:Type}{W:Wd S}{c:Dx W}{g ga:Gr}
instance fIs(S:Type)(T:Bt)(f:Fn S):Fn S:=λZ st=>(f Z st).bind λd st1=>.ok (.bl (isI T d)) st1
def zf0{x:Str}(T:Bt)(hK:c.K=X.K)(hg:Gl X "isinstance")(hm:X.mg "isinstance" = none)(hg2:Gl X x)(hm2:X.mg x=none)(hv:bootBuiltins x=some (.type T.nm))(he:DE X c ga e f)(hs:autoParam (starEach (e::[.Name x p2]) X.env=(false,eval e X.env)::starEach [.Name x p2] X.env) uR)(hs2:autoParam (starEach [.Name x p2] X.env=(false,eval (.Name x p2) X.env)::starEach [] X.env) uR)(hpl:autoParam ((backTo pos (starEach [.Name x p2] X.env)).any (·.1)=false) uR)(hn:autoParam (x≠"__name__") uD)(hd:autoParam ((x == ("__debug__" : Str))=false) uD) :
 DE X c g (.Call (.Name "isinstance" p) [e,.Name x p2] [] pos) (fIs S T f):=by
 have hp:PE X (.Call (.Name "isinstance" p) [e,.Name x p2] [] pos) (tCB (λvs H Q=>∃A d v,vs=[v,.ty T.nm]/\Is X.K A H d v/\Q (.bl (isI T d)) H) (vl5 (tD c ga f) (vl5 (tC (.ty T.nm)) ud2))):=by
  refine zw1 (id:="isinstance") ?_ hg hm boot_isinstance (zf6 he (zf6 (wo2 hg2 hm2 hv rfl hn hd) zn8 hs2) hs) 'z' 'z' hs hpl;intro A3 s Y H xs us Q I r h;obtain⟨A,d,v,rfl,hi,q⟩:=h;obtain⟨u,w',rfl,r1,r2⟩:=vs5 r;cases r2;exact wq1 T I hi r1 λtk=>{.bl _,H,I.tok tk,rfl,q}
 refine hp.imp λY H Q hI113=>?_
 obtain⟨Z,st,R,ok,w⟩:=hI113;refine zf2 (Go.bind (g':=ga) (k:=λd _ st1=>.ok (.bl (isI T d)) st1) R ok w) λv H1 hI114=>?_
 obtain⟨d,st1,R1,ok1,e1,z,w1⟩:=hI114;exact{_,d,v,rfl,hK▸(show Is c.K (λb=>¬W.mv b) H1 d v from z.toR),w1 _ H1 Ext.refl ok1 (New.val R1 zq2 g)}
end
section
variable{X:Cx}{S:Type}{W:Wd S}{c:Dx W}
instance vo2:List D->Option D
 | [.lst l]=>some (.int l.length)
 | [.tup l]=>some (.int l.length)
 | [.fl l]=>some (.int l.length)
 | _=>none
open H in
def zx7{K:PySem.W.Frag}(hK:c.K=K):vf4 c (λxs H Q=>∃p ys,xs=[.ref p]/\(SqL K H p ys\/SqT K H p ys)/\Q (.int ys.length) H) vo2:=by
 subst hK;intro l vs H st d Q ok z e q;unfold vo2 at e;split at e
 ·rename_i m
  cases e;obtain⟨v,r,e1,i1,i2⟩:=IsL.cons.mp z;obtain⟨a,us,ea,_,s1,i3⟩:=Is.lst_iff.mp i1;rw[IsL.nil.mp i2,ea] at e1;exact{a,us,e1,.inl (.of s1),by rw[<-i3.length];exact q _ H Ext.refl ok zl2}
 ·rename_i m
  cases e;obtain⟨v,r,e1,i1,i2⟩:=IsL.cons.mp z;obtain⟨a,us,ea,s1,i3⟩:=Is.tup_sq i1;rw[IsL.nil.mp i2,ea] at e1;exact{a,us,e1,.inr s1,by rw[<-i3.length];exact q _ H Ext.refl ok zl2}
 ·rename_i m
  cases e;obtain⟨v,r,e1,i1,i2⟩:=IsL.cons.mp z;obtain⟨a,us,ea,s1,i3,_⟩:=Is.asL i1 rfl;rw[IsL.nil.mp i2,ea] at e1;exact{a,us,e1,.inl (.inl s1),by rw[<-i3.length];exact q _ H Ext.refl ok zl2}
 ·cases e
instance yi9:List D->Option D
 | [.lst l]=>if D.immL l=true then some (.tup l) else none
 | [.tup l]=>if D.immL l=true then some (.tup l) else none
 | _=>none
open H in
def zt4{K:PySem.W.Frag}(hK:c.K=K):vf4 c (λxs H Q=>∃p ys,xs=[.ref p]/\((SqL K H p ys/\∀l,H l=none->Q (.ref l) (upd H l (.tup ys)))\/(SqT K H p ys/\Q (.ref p) H))) yi9:=by
 subst hK;intro l vs H st d Q ok z e q;unfold yi9 at e;split at e
 ·rename_i m
  split at e
  ·rename_i im
   cases e;obtain⟨v,r,e1,i1,i2⟩:=IsL.cons.mp z;obtain⟨a,us,ea,_,s1,i3⟩:=Is.lst_iff.mp i1;rw[IsL.nil.mp i2,ea] at e1;exact{a,us,e1,.inl {.of s1,λp hp=>q _ _ (Ext.laid hp) (zd9 ok hp) (New.tup ok hp (λ_ n=>n) im i3)}}
  ·cases e
 ·rename_i m
  split at e
  ·rename_i im
   cases e;obtain⟨v,r,e1,i1,i2⟩:=IsL.cons.mp z;obtain⟨a,us,ea,s1,i3⟩:=Is.tup_iff.mp i1;rw[IsL.nil.mp i2,ea] at e1;exact{a,us,e1,.inr {.of s1,q _ H Ext.refl ok (Is.tup s1 (IsL.ofImm im i3))}}
  ·cases e
 ·cases e
instance vu4:List D->Option D
 | [.lst l]=>if D.immL l=true then some (.lst l) else none
 | [.tup l]=>if D.immL l=true then some (.lst l) else none
 | _=>none
open H in
def ws2{K:PySem.W.Frag}(hK:c.K=K):vf4 c (λxs H Q=>∃p ys,xs=[.ref p]/\(SqL K H p ys\/SqT K H p ys)/\∀l,H l=none->Q (.ref l) (upd H l (.lst ys))) vu4:=by
 subst hK;intro l vs H st d Q ok z e q;unfold vu4 at e;split at e
 ·rename_i m
  split at e
  ·rename_i im
   cases e;obtain⟨v,r,e1,i1,i2⟩:=IsL.cons.mp z;obtain⟨a,us,ea,_,s1,i3⟩:=Is.lst_iff.mp i1;rw[IsL.nil.mp i2,ea] at e1;exact{a,us,e1,.inl (.of s1),λp hp=>q _ _ (Ext.laid hp) (zd9 ok hp) (New.lst ok hp (λ_ n=>n) im i3)}
  ·cases e
 ·rename_i m
  split at e
  ·rename_i im
   cases e;obtain⟨v,r,e1,i1,i2⟩:=IsL.cons.mp z;obtain⟨a,us,ea,s1,i3⟩:=Is.tup_sq i1;rw[IsL.nil.mp i2,ea] at e1;exact{a,us,e1,.inr s1,λp hp=>q _ _ (Ext.laid hp) (zd9 ok hp) (New.lst ok hp (λ_ n=>n) im i3)}
  ·cases e
 ·cases e
instance vz2:List D->Option D
 | [.int i]=>some (.int i)
 | [.bl k]=>some (.int (if k then 1 else 0))
 | _=>none
open H in
def xz8:vf4 c (λxs H Q=>(∃i,xs=[.int i]/\Q (.int i) H)\/∃k,xs=[.bl k]/\Q (.int (if k then 1 else 0)) H) vz2:=by
 intro l vs H st d Q ok z e q;unfold vz2 at e;split at e
 ·rename_i i
  cases e;obtain⟨v,r,e1,i1,i2⟩:=IsL.cons.mp z;rw[IsL.nil.mp i2,Is.int_iff.mp i1] at e1;exact .inl {i,e1,q _ H Ext.refl ok zl2}
 ·rename_i i
  cases e;obtain⟨v,r,e1,i1,i2⟩:=IsL.cons.mp z;rw[IsL.nil.mp i2,Is.bl_iff.mp i1] at e1;exact .inr {i,e1,q _ H Ext.refl ok zl2}
 ·cases e
instance xs3(f:Int->Int->Int):List D->Option D
 | [.int i,.int j]=>some (.int (f i j))
 | _=>none
open H in
def zt5(f:Int->Int->Int):vf4 c (λxs H Q=>∃i j,xs=[.int i,.int j]/\Q (.int (f i j)) H) (xs3 f):=by
 intro l vs H st d Q ok z e q;unfold xs3 at e;split at e
 ·rename_i i j
  cases e;obtain⟨v,r,e1,i1,i2⟩:=IsL.cons.mp z;obtain⟨v',r',e1',i1',i2'⟩:=IsL.cons.mp i2;rw[e1',IsL.nil.mp i2',Is.int_iff.mp i1,Is.int_iff.mp i1'] at e1;exact{i,j,e1,q _ H Ext.refl ok zl2}
 ·cases e
instance zh1:List D->Option (List Bool)
 | []=>some []
 | .bl b::l=>(zh1 l).map λr=>b::r
 | _=>none
theorem yk8{K:PySem.W.Frag}{A:Addr->Prop}{H:Hp}:∀{l:List D} {vs:List V} {bs:List Bool},zh1 l=some bs->IsL K A H l vs->vs=bs.map V.bl
 | [],vs,bs,e,h=>by cases e;exact IsL.nil.mp h
 | .bl b::l,vs,bs,e,h=>by
   unfold zh1 at e;cases q:zh1 l with
   | none=>rw[q] at e;cases e
   | some r=>
     rw[q] at e;cases e;obtain⟨v,us,e1,i1,i2⟩:=IsL.cons.mp h;rw[e1,Is.bl_iff.mp i1,yk8 q i2];rfl
 | .non::_,_,_,e,_=>by simp[zh1] at e
 | .int _::_,_,_,e,_=>by simp[zh1] at e
 | .str _::_,_,_,e,_=>by simp[zh1] at e
 | .tup _::_,_,_,e,_=>by simp[zh1] at e
 | .lst _::_,_,_,e,_=>by simp[zh1] at e
 | .dct _ _::_,_,_,e,_=>by simp[zh1] at e
instance xe1(f:List Bool->Bool):List D->Option D
 | [.lst l]=>(zh1 l).map λbs=>.bl (f bs)
 | _=>none
open H in
def yp5{K:PySem.W.Frag}(f:List Bool->Bool):vf4 c (λxs H Q=>∃(a:Addr) (bs:List Bool),xs=[.ref a]/\SqL K H a (bs.map V.bl)/\Q (.bl (f bs)) H) (xe1 f):=by
 intro l vs H st d Q ok z e q;unfold xe1 at e;split at e
 ·rename_i m
  cases qb:zh1 m with
  | none=>rw[qb] at e;cases e
  | some bs=>
    rw[qb] at e;cases e;obtain⟨v,r,e1,i1,i2⟩:=IsL.cons.mp z;obtain⟨a,us,ea,_,s1,i3⟩:=Is.lst_iff.mp i1;rw[IsL.nil.mp i2,ea] at e1;rw[yk8 qb i3] at s1;exact{a,bs,e1,.of s1,q _ H Ext.refl ok zq2}
 ·cases e
instance vu9:D->D->Option D
 | .lst l,.lst m=>if D.immL l=true/\D.immL m=true/\l.length+m.length<=sizeLine then some (.lst (l++m)) else none
 | _,_=>none
open H in
def wx0:OpD c ub2 vu9:=by
 intro d1 d2 v1 v2 H st d Q ok z1 z2 e q;unfold vu9 at e;split at e
 ·rename_i l m
  split at e
  ·rename_i h
   cases e;obtain⟨a,vs,ea,_,s1,i1⟩:=Is.lst_iff.mp z1;obtain⟨b,us,eb,_,s2,i2⟩:=Is.lst_iff.mp z2;exact{a,b,vs,us,ea,eb,s1,s2,by rw[<-i1.length,<-i2.length];exact h.2.2,λp hp=>q _ _ (Ext.laid hp) (zd9 ok hp) (New.lst ok hp (λ_ n=>n) (ze7 h.1 h.2.1) (i1.append i2))}
  ·cases e
 ·cases e
instance vu8:D->D->Option D
 | .tup l,.tup m=>if D.immL l=true/\D.immL m=true/\l.length+m.length<=sizeLine/\l.isEmpty=false then some (.tup (l++m)) else none
 | _,_=>none
open H in
def wo8{K:PySem.W.Frag}(hK:c.K=K):OpD c (vq7 K) vu8:=by
 subst hK;intro d1 d2 v1 v2 H st d Q ok z1 z2 e q;unfold vu8 at e;split at e
 ·rename_i l m
  split at e
  ·rename_i h
   cases e;obtain⟨a,vs,ea,s1,i1⟩:=Is.tup_iff.mp z1;obtain⟨b,us,eb,s2,i2⟩:=Is.tup_sq z2;have hl:vs≠[]:=λz=>by
    have:=i1.length;rw[z] at this;have h4:=h.2.2.2;cases l with
    | nil=>cases h4
    | cons _ _=>cases this
   refine{a,b,vs,us,ea,eb,.of s1,s2,hl,by rw[<-i1.length,<-i2.length];exact h.2.2.1,λhz=>?_,λ_ p hp=>q _ _ (Ext.laid hp) (zd9 ok hp) (New.tup ok hp (λ_ n=>n) (ze7 h.1 h.2.1) (i1.append i2))};have hm:m=[]:=by
    have:=i2.length;rw[hz] at this;exact Cv0.mp this
   rw[hm,Bh0] at q;exact q _ H Ext.refl ok (Is.tup s1 (IsL.ofImm h.1 i1))
  ·cases e
 ·cases e
end
instance yt9:D->Option Key
 | .int i=>some (.inl i)
 | .str x=>some (.inr x)
 | _=>none
instance vj3:List D->Option (List Key)
 | []=>some []
 | d::l=>(yt9 d).bind λk=>(vj3 l).map λr=>k::r
instance yj5:D->Option vc6
 | .int i=>some (.inl i)
 | .str x=>some (.inr x)
 | .tup l=>(vj3 l).map .t
 | _=>none
instance vj2:List D->Option (List vc6)
 | []=>some []
 | d::l=>(yj5 d).bind λk=>(vj2 l).map λr=>k::r
instance zc0:D->Option (List vc6)
 | .tup l=>vj2 l
 | _=>none
def yz5(k:Key):yt9 (vi9 k)=some k:=by cases k<;>rfl
theorem yt7:∀k:List Key,vj3 (k.map vi9)=some k
 | []=>rfl
 | a::k=>by
   show (yt9 (vi9 a)).bind (λx=>(vj3 (k.map vi9)).map λr=>x::r)=some (a::k);rw[yz5,yt7 k];rfl
theorem yz4:∀k:vc6,yj5 (vg9 k)=some k
 | .inl _=>rfl
 | .inr _=>rfl
 | .t l=>by show (vj3 (l.map vi9)).map vc6.t=_;rw[yt7];rfl
theorem yt6:∀k:List vc6,vj2 (k.map vg9)=some k
 | []=>rfl
 | a::k=>by
   show (yj5 (vg9 a)).bind (λx=>(vj2 (k.map vg9)).map λr=>x::r)=some (a::k);rw[yz4,yt6 k];rfl
def zh3(k:List vc6):zc0 (vc4 k)=some k:=yt6 k
section
variable{K:PySem.W.Frag}{A:Addr->Prop}{H:Hp}
theorem xv2(e:yt9 d=some k)(h:Is K A H d v):v=kV k/\d=vi9 k:=by
 cases d with
 | int i=>cases e;exact{Is.int_iff.mp h,rfl}
 | str x=>cases e;exact{Is.str_iff.mp h,rfl}
 | _=>cases e
theorem xf4:∀{l:List D} {k:List Key} {vs:List V},vj3 l=some k->IsL K A H l vs->vs=k.map kV/\l=k.map vi9
 | [],k,vs,e,h=>by cases e;exact{IsL.nil.mp h,rfl}
 | d::l,k,vs,e,h=>by
   unfold vj3 at e;cases q1:yt9 d with
   | none=>rw[q1] at e;cases e
   | some a=>
     cases q2:vj3 l with
     | none=>rw[q1,q2] at e;cases e
     | some r=>
       rw[q1,q2] at e;have e:some (a::r)=some k:=e;cases e;obtain⟨v,us,e1,i1,i2⟩:=IsL.cons.mp h;obtain⟨e2,e3⟩:=xv2 q1 i1;obtain⟨e4,e5⟩:=xf4 q2 i2;subst e1 e2 e4;exact{rfl,by rw[e3,e5];rfl}
theorem xv1(e:yj5 d=some k)(h:Is K A H d v):KIs H k v/\d=vg9 k:=by
 cases d with
 | int i=>cases e;exact{Is.int_iff.mp h,rfl}
 | str x=>cases e;exact{Is.str_iff.mp h,rfl}
 | tup l=>
   obtain⟨b,vs,e1,s,i⟩:=Is.tup_iff.mp h;have e:(vj3 l).map vc6.t=some k:=e;cases q:vj3 l with
   | none=>rw[q] at e;cases e
   | some r=>
     rw[q] at e;cases e;obtain⟨e2,e3⟩:=xf4 q i;exact{{b,e1,by rw[<-e2];exact s},by rw[e3];rfl}
 | _=>cases e
theorem xf3:∀{l:List D} {k:List vc6} {vs:List V},vj2 l=some k->IsL K A H l vs->Paired (KIs H) k vs/\l=k.map vg9
 | [],k,vs,e,h=>by cases e;cases IsL.nil.mp h;exact{.nil,rfl}
 | d::l,k,vs,e,h=>by
   unfold vj2 at e;cases q1:yj5 d with
   | none=>rw[q1] at e;cases e
   | some a=>
     cases q2:vj2 l with
     | none=>rw[q1,q2] at e;cases e
     | some r=>
       rw[q1,q2] at e;have e:some (a::r)=some k:=e;cases e;obtain⟨v,us,e1,i1,i2⟩:=IsL.cons.mp h;obtain⟨e2,e3⟩:=xv1 q1 i1;obtain⟨e4,e5⟩:=xf3 q2 i2;subst e1;exact{.cons e2 e4,by rw[e3,e5];rfl}
theorem zr8(e:zc0 d=some k)(h:Is K A H d v):∃b,v=.ref b/\vk4 H b k/\d=vc4 k:=by
 cases d with
 | tup l=>
   obtain⟨b,vs,e1,s,i⟩:=Is.tup_iff.mp h;obtain⟨e2,e3⟩:=xf3 (show vj2 l=some k from e) i;exact{b,e1,⟨vs,s,e2⟩,by rw[e3];rfl}
 | _=>cases e
instance vc1(k:List vc6):List D->List D->Option D
 | d::ks,v::vs=>if zc0 d=some k then some v else vc1 k ks vs
 | _,_=>none
theorem yg3(k:List vc6):∀{kk:List (List vc6)} {vs:List D} {us:List V},kk.length=us.length->IsL K A H vs us->
 (vc1 k (kk.map vc4) vs=none/\vj5 (kk.zip us) k=none)\/∃d v,vc1 k (kk.map vc4) vs=some d/\vj5 (kk.zip us) k=some v/\Is K A H d v
 | [],vs,us,hl,h=>.inl {by unfold vc1;cases vs<;>rfl,rfl}
 | x::kk,vs,us,hl,h=>by
   cases vs with
   | nil=>rw[IsL.nil.mp h] at hl;cases hl
   | cons d vs=>
     obtain⟨v,r,e1,i1,i2⟩:=IsL.cons.mp h;subst e1;have hl':kk.length=r.length:=by simpa using hl
     by_cases e:x=k
     ·refine .inr {d,v,?_,zo5 (p:=(x,v)) e,i1}
      show (if zc0 (vc4 x)=some k then some d else _)=some d;rw[zh3,if_pos (by rw[e])]
     ·have e':¬zc0 (vc4 x)=some k:=by rw[zh3];exact λz=>e (Option.some.inj z)
      have a1:vc1 k ((x::kk).map vc4) (d::vs)=vc1 k (kk.map vc4) vs:=by
       show (if zc0 (vc4 x)=some k then some d else _)=_;rw[if_neg e']
      have a2:vj5 ((x::kk).zip (v::r)) k=vj5 (kk.zip r) k:=zo6 (p:=(x,v)) e;rw[a1,a2];exact yg3 k hl' i2
end
section
variable{X:Cx}{S:Type}{W:Wd S}{c:Dx W}{g ga gb:Gr}{a b:Expr}{pos:Pos}{fa fb:Fn S}
def xh1:DE X c g (.Dict [] [] pos) (fC S (.dct [.non] [])):=wd1.imp λY H Q ⟨Z,st,R,ok,w⟩ p hp=>
 w _ _ (Ext.laid hp) (zd9 ok hp) (New.val R (Is.dct_iff.mpr {p,[],rfl,{zl4 ok hp,hp},IsL.nil.mpr rfl,.inr {[],rfl,rfl,zb3}}) g)
instance vl1(neg:Bool)(k d:D):Option D:=match d with
 | .dct (.non::ks) vs=>(zc0 k).map λkk=>.bl (if neg then !(vc1 kk ks vs).isSome else (vc1 kk ks vs).isSome)
 | _=>none
def xg9{A:Addr->Prop}{H:Hp}{K:PySem.W.Frag}{k:D}{ks vs:List D}{kk:List vc6}{v1 v2:V}(hk:zc0 k=some kk)(h1:Is K A H k v1)(h2:Is K A H (.dct (.non::ks) vs) v2) :
 ∃a o,v2=.ref a/\vi2 H a v1 o/\((vc1 kk ks vs=none/\o=none)\/∃d v,vc1 kk ks vs=some d/\o=some v/\Is K A H d v):=by
 obtain⟨b,eb,hb,_⟩:=zr8 hk h1;obtain⟨a,us,ea,_,i,q⟩:=Is.dct_iff.mp h2;rcases q with⟨k1,e1,_,_⟩ | ⟨k2,e2,el,eH⟩
 ·cases k1 with
  | nil=>cases e1
  | cons z r=>
    have:D.non=vi9 z:=(List.cons.inj e1).1;cases z<;>cases this
 ·have e3:ks=k2.map vc4:=(List.cons.inj e2).2
  subst e3 eb;refine{a,_,ea,vi2.t eH hb,?_};rcases yg3 kk el i with⟨z1,z2⟩ | ⟨d,v,z1,z2,z3⟩
  ·exact .inl ⟨z1,z2⟩
  ·exact .inr ⟨d,v,z1,z2,z3⟩
open H in
def xn7{Y:St}{H:Hp}{Q:VK}{neg:Bool}(h:tD c g (f2 S (vl1 neg) fa fb) Y H Q):(λY H Q=>tD c ga fa Y H λy H1=>tD c gb fb Y H1 λx H2=>∃a o,x=.ref a/\vi2 H2 a y o/\Q (.bl (if neg then !o.isSome else o.isSome)) H2) Y H Q:=by
 have hr:OpD c (λy x H2 Q=>∃a o,x=.ref a/\vi2 H2 a y o/\Q (.bl (if neg then !o.isSome else o.isSome)) H2) (vl1 neg):=by
  intro d1 d2 v1 v2 H st d Q ok z1 z2 e q;unfold vl1 at e;split at e
  ·rename_i ks vs
   cases hk:zc0 d1 with
   | none=>rw[hk] at e;cases e
   | some kk=>
     rw[hk] at e;cases e;obtain⟨a,o,ea,dg,ho⟩:=xg9 hk z1 z2;refine{a,o,ea,dg,?_};have eo:o.isSome=(vc1 kk ks vs).isSome:=by
      rcases ho with⟨h1,h2⟩ | ⟨_,_,h1,h2,_⟩<;>rw[h1,h2]<;>rfl
     rw[eo];exact q _ H Ext.refl ok zq2
  ·cases e
 exact vm8 hr h
def vb1(hu:X.A.units+2<cLine)(ha:DE X c ga a fa)(hb:DE X c gb b fb)(hm:autoParam (behindInMarks .In b=false) uR):DE X c g (.Compare a [.In] [b] pos) (f2 S (vl1 false) fa fb):=
 (ww1 (wi3 hu ha hb) hm).imp λY H Q q=>xn7 q
def wz9(hu:X.A.units+2<cLine)(ha:DE X c ga a fa)(hb:DE X c gb b fb)(hm:autoParam (behindInMarks .In b=false) uR):DT X c (.Compare a [.In] [b] pos) (fB S (f2 S (vl1 false) fa fb)):=
 (xq0 (wi3 hu ha hb) hm).imp λY H Q q=>by
  have q':tB (tD c .R (f2 S (vl1 false) fa fb)) Y H Q:=yr2 q;exact xn7 (ga:=ga) (gb:=gb) q'
instance vn3(d k:D):Option D:=match d with
 | .dct (.non::ks) vs=>(zc0 k).bind λkk=>im (vc1 kk ks vs)
 | _=>none
open H in
def yp1(hu:X.A.units+2<cLine)(ha:DE X c ga a fa)(hb:DE X c gb b fb)(hs:uc1 b):DE X c g (.Subscript a b pos) (f2 S vn3 fa fb):=by
 have hr:OpD c (λx y H2 Q=>∃a v,x=.ref a/\vi2 H2 a y (some v)/\Q v H2) vn3:=by
  intro d1 d2 v1 v2 H st d Q ok z1 z2 e q;unfold vn3 at e;split at e
  ·rename_i ks vs
   cases hk:zc0 d2 with
   | none=>rw[hk] at e;cases e
   | some kk=>
     rw[hk] at e;obtain⟨e,m⟩:=yf1 (show im (vc1 kk ks vs)=some d from e);obtain⟨a,o,ea,dg,ho⟩:=xg9 hk z2 z1;rcases ho with⟨h1,h2⟩ | ⟨d',v,h1,h2,h3⟩
     ·rw[e] at h1;cases h1
     ·rw[e] at h1;cases h1
      subst h2;exact{a,v,ea,dg,q v H Ext.refl ok (New.imm m h3)}
  ·cases e
 exact(zy2 hu ha hb hs).imp λY H Q q=>vm8 hr q
end
instance ve4(k:List vc6)(v:D)(ks vs:List D):List D×List D:=
 if (vc1 k ks vs).isSome=true then (ks,List.zipWith (λd u=>if zc0 d=some k then v else u) ks vs) else (ks++[vc4 k],vs++[v])
section
variable{K:PySem.W.Frag}{A:Addr->Prop}{H:Hp}
theorem xp0(hd:Is K A H d v):∀{kk:List (List vc6)} {vs:List D} {us:List V},kk.length=us.length->IsL K A H vs us->
 ∃us',IsL K A H (List.zipWith (λx u=>if zc0 x=some k then d else u) (kk.map vc4) vs) us'/\kk.length=us'.length/\(kk.zip us).map (λkv=>if kv.1=k then (kv.1,v) else kv)=kk.zip us'
 | [],vs,us,hl,h=>{[],by simpa using IsL.nil.mpr rfl,rfl,rfl}
 | x::kk,vs,us,hl,h=>by
   cases vs with
   | nil=>rw[IsL.nil.mp h] at hl;cases hl
   | cons e vs=>
     obtain⟨u,r,e1,i1,i2⟩:=IsL.cons.mp h;subst e1;obtain⟨us',g1,g2,g3⟩:=xp0 hd (kk:=kk) (by simpa using hl) i2;by_cases z:x=k
     ·refine{v::us',?_,by simp[g2],?_}
      ·show IsL K A H ((if zc0 (vc4 x)=some k then d else e)::_) _
       rw[zh3,if_pos (by rw[z])];exact IsL.cons.mpr ⟨v,us',rfl,hd,g1⟩
      ·show (if x=k then (x,v) else (x,u))::_=(x,v)::kk.zip us'
       rw[if_pos z,<-g3];rfl
     ·refine{u::us',?_,by simp[g2],?_}
      ·show IsL K A H ((if zc0 (vc4 x)=some k then d else e)::_) _
       rw[zh3,if_neg (λq=>z (Option.some.inj q))];exact IsL.cons.mpr ⟨u,us',rfl,i1,g1⟩
      ·show (if x=k then (x,v) else (x,u))::_=(x,u)::kk.zip us'
       rw[if_neg z,<-g3];rfl
def xa2{k:List vc6}{d:D}{v:V}(hd:Is K A H d v){kk:List (List vc6)}{vs:List D}{us:List V}(hl:kk.length=us.length)(h:IsL K A H vs us) :
 ∃(kk':List (List vc6)) (us':List V),(ve4 k d (kk.map vc4) vs).1=kk'.map vc4/\IsL K A H (ve4 k d (kk.map vc4) vs).2 us'/\kk'.length=us'.length/\vg8 (kk.zip us) k v=kk'.zip us':=by
 have hv:=yg3 k hl h;unfold ve4 vg8;rw[zv3];rcases hv with⟨z1,z2⟩ | ⟨d',v',z1,z2,_⟩
 ·rw[z1,z2]
  refine{kk++[k],us++[v],?_,?_,?_,?_}
  ·simp
  ·simpa using h.append (IsL.one hd)
  ·simp[hl]
  ·simp[List.zip_append hl]
 ·rw[z1,z2]
  obtain⟨us',g1,g2,g3⟩:=xp0 (k:=k) hd hl h;exact⟨kk,us',rfl,g1,g2,g3⟩
end
theorem xf7(hd:d.imm=true):∀{ks vs:List D},D.immL vs=true->D.immL (List.zipWith (λx u=>if zc0 x=some k then d else u) ks vs)=true
 | [],vs,_=>by simp[D.immL]
 | x::ks,[],_=>by simp[D.immL]
 | x::ks,v::vs,h=>by
   have h':v.imm=true/\D.immL vs=true:=by simpa [D.immL] using h
   show (D.imm (if zc0 x=some k then d else v)&&D.immL _)=true;rw[xf7 hd h'.2];by_cases z:zc0 x=some k
   ·rw[if_pos z,hd];rfl
   ·rw[if_neg z,h'.1];rfl
def zx2(hd:d.imm=true)(h:D.immL vs=true):D.immL (ve4 k d ks vs).2=true:=by
 unfold ve4;split
 ·exact xf7 hd h
 ·exact ze7 h (by simp[D.immL,hd])
section
variable{X:Cx}{S:Type}{W:Wd S}{c:Dx W}{g ga gb:Gr}{a b:Expr}{fk fv:Fn S}{i:Nat}
instance vi0(Z:Rho)(i:Nat):Option (List D×List D):=match Z[i]? with
 | some (.own (.dct (.non::ks) vs))=>if D.immL vs=true then some (ks,vs) else none
 | _=>none
def xl9(h:vi0 Z i=some (ks,vs)):Z[i]?=some (.own (.dct (.non::ks) vs))/\D.immL vs=true:=by
 unfold vi0 at h;split at h
 ·split at h
  ·cases h;exact{by assumption,by assumption}
  ·cases h
 ·cases h
instance wh5(S:Type)(i:Nat)(fk fv:Fn S):FnS S:=λZ st=>(fv Z st).bind λv st1=>match vi0 Z i with
 | some (ks,vs)=>(fk Z st1).bind λk st2=>match zc0 k with
   | some kk=>if v.imm=true/\ks.length<sizeLine then .ok (.nx (Z.set i (.own (.dct (.non::(ve4 kk v ks vs).1) (ve4 kk v ks vs).2)))) st2 else .bad
   | none=>.bad
 | none=>.bad
def yg0{x:Str}{k value:Expr}{p1 p2 pos:Pos}(hu:X.A.units+2<cLine)(hx:PE X (.Name x p1) (vj0 i))(hk:DE X c ga k fk)(hv:DE X c gb value fv)(hs:autoParam (swapsWith value (some (.Subscript (.Name x p1) k p2)) pos.line X.env=pure false) uR) :
 DS X c (.Assign [.Subscript (.Name x p1) k p2] value pos) (wh5 S i fk fv):=
 (yy1 hu hx hk hv hs).imp λD Y H q=>by
  refine zf2 (zq3 (g:=gb) (k:=λv Z st1=>match vi0 Z i with
   | some (ks,vs)=>(fk Z st1).bind λk st2=>match zc0 k with
     | some kk=>if v.imm=true/\ks.length<sizeLine then .ok (.nx (Z.set i (.own (.dct (.non::(ve4 kk v ks vs).1) (ve4 kk v ks vs).2)))) st2 else .bad
     | none=>.bad
   | none=>.bad) q) λv H1 hh=>?_
  obtain⟨Z,d,st0,st1,R,ok,R1,ok1,e1,z,w⟩:=hh;cases hd:vi0 Z i with
  | none=>simp only[hd] at w;exact(show False from w).elim
  | some kv=>
    obtain⟨ks,vs⟩:=kv;simp only[hd] at w;obtain⟨ho,im⟩:=xl9 hd;obtain⟨ad,ea,nn,f0,us0,_⟩:=R1.slot i _ ho;refine{.ref ad,ze1 ea,Z,st1,R1,ok1,za6 (za2.mp w) (λdk st2 q2 vk H2 e2 ok2 zk=>?_) λx st2 q2 H2 e2 ok2=>q2 H2 ((e1.trans e2).f0 R) ok2};cases hkk:zc0 dk with
    | none=>simp only[hkk] at q2;exact(show False from q2).elim
    | some kk=>
      simp only[hkk] at q2;by_cases hc:d.imm=true/\ks.length<sizeLine
      ·rw[if_pos hc] at q2
       have R2:=R1.ext ok1 e2;obtain⟨ad',ea',nn',f0',us,iu,hq⟩:=R2.slot i _ ho;have:ad'=ad:=by
        have:=(ze1 ea').symm.trans (ze1 ea);cases this;rfl
       subst this;obtain⟨bk,ebk,hbk,_⟩:=zr8 hkk (show Is c.K (λb=>¬W.mv b) H2 dk vk from zk.toR);have zv:Is c.K (Av c Y Z) H2 d v:=Is.ofImm hc.1 (z.toR.ext e2 ok1);rcases hq with⟨k1,x1,_,_⟩ | ⟨k2,x2,el,eH⟩
       ·cases k1 with
        | nil=>cases x1
        | cons y r=>
          have:L2.D.non=vi9 y:=(List.cons.inj x1).1;cases y<;>cases this
       ·have e3:ks=k2.map vc4:=(List.cons.inj x2).2
        subst e3;obtain⟨kk',us',g1,g2,g3,g4⟩:=xa2 (k:=kk) zv el iu;have hz:(k2.zip us).length<sizeLine:=by
         rw[List.length_zip,<-el,Nat.min_self];have:=hc.2;rw[Aa0] at this;exact this
        have dp:=vq3.t (v:=v) eH hbk hz;rw[g4] at dp;subst ebk;refine{ad',_,rfl,dp,?_};obtain⟨R3,F3⟩:=R2.wr (d':=.dct (.non::(ve4 kk d (k2.map vc4) vs).1) (ve4 kk d (k2.map vc4) vs).2) (o:=.dT (kk'.zip us')) ho (ze1 ea') {(λu z=>by cases z),(λob u z=>by cases z)}
         λkt=>{us',g2.mono kt,.inr {kk',by rw[g1],g3,zb3}}
        exact q2 Y _ ((e1.trans e2).frm.trans F3) (yd8 ok2 nn.1 eH) R3
      ·rw[if_neg hc] at q2;exact(show False from q2).elim
end
section
variable{X:Cx}{S:Type}{W:Wd S}{c:Dx W}{g ga gb:Gr}
instance xd0(K:PySem.W.Frag):R2:=λx y H Q=>∃a b ys,x=.ref a/\y=.ref b/\SqT K H a []/\SqT K H b ys/\Q (.ref b) H
def wd6:OpR X (binaryOp .Add) (xd0 X.K):=by
 intro A3 s Y H x y v u Q I rx ry h;obtain⟨a,b,ys,rfl,rfl,ha,hb,q⟩:=h;cases rx;cases ry;obtain⟨its,r1,p1,_⟩:=I.tuple ha;obtain⟨its2,r2,p2,_⟩:=I.tuple hb;cases r1;obtain⟨⟨cls,dd,data,sl⟩,ho,hc,n,hd⟩:=id p1;obtain⟨⟨cls2,dd2,data2,sl2⟩,ho2,hc2,n2,hd2⟩:=id p2;simp only at hc hd hc2 hd2;subst hc hd hc2 hd2;exact concat_meets {_,ho,rfl} {_,ho2,rfl} noFill_tuple_add seq_tuple_add PySem.F.slot_tuple_add PySem.F.entry_tuple_add (PySem.F.args_tuple_add_2 _ _) (tuple_addW0 a b _ its2.toArray n n2 dd dd2 sl sl2 rfl) {ho,ho2,{.ref b,H,I,rfl,q}}
instance xs6:D->D->Option D
 | .tup [],.tup m=>if D.immL m=true then some (.tup m) else none
 | _,_=>none
open H in
def wd8{K:PySem.W.Frag}:OpD c (xd0 K) xs6:=by
 intro d1 d2 v1 v2 H st d Q ok z1 z2 e q;unfold xs6 at e;split at e
 ·rename_i m
  split at e
  ·rename_i im
   cases e;obtain⟨a,vs,ea,s1,i1⟩:=Is.tup_iff.mp z1;obtain⟨b,us,eb,s2,i2⟩:=Is.tup_iff.mp z2;rw[IsL.nil.mp i1] at s1;refine{a,b,us,ea,eb,.of s1,.of s2,?_};rw[<-eb];exact q _ H Ext.refl ok (Is.ofImm (by show D.immL m=true;exact im) z2)
  ·cases e
 ·cases e
instance vy5(S:Type)(i:Nat)(fk fv:Fn S):FnS S:=λZ st=>(fv Z st).bind λv st1=>match vd8 Z i with
 | some l=>(fk Z st1).bind λk st2=>match k with
   | .int j=>match ixN l.length j with
     | some n=>if v.imm=true then .ok (.nx (Z.set i (.own (.lst (l.set n v))))) st2 else .bad
     | none=>.bad
   | _=>.bad
 | none=>.bad
def xl8{x:Str}{i:Nat}(hx:PE X (.Name x p1) (vj0 i))(hk:DE X c ga k fk)(hv:DE X c gb value fv)(h:∀{tk tv:TE},PE X k tk->PE X value tv->PS X (.Assign [.Subscript (.Name x p1) k p2] value pos) (vw7 tv (uk2 (vj0 i) tk vy8))):DS X c (.Assign [.Subscript (.Name x p1) k p2] value pos) (vy5 S i fk fv):=
 (h hk hv).imp λD Y H q=>by
  refine zf2 (zq3 (g:=gb) (k:=λv Z st1=>match vd8 Z i with
   | some l=>(fk Z st1).bind λk st2=>match k with
     | .int j=>match ixN l.length j with
       | some n=>if v.imm=true then .ok (.nx (Z.set i (.own (.lst (l.set n v))))) st2 else .bad
       | none=>.bad
     | _=>.bad
   | none=>.bad) q) λv H1 hh=>?_
  obtain⟨Z,d,st0,st1,R,ok,R1,ok1,e1,z,w⟩:=hh;cases hd:vd8 Z i with
  | none=>simp only[hd] at w;exact(show False from w).elim
  | some l=>
    simp only[hd] at w;obtain⟨ad,vs,ea,eH,zz,nm⟩:=R1.lstAt hd;refine{.ref ad,ea,Z,st1,R1,ok1,za6 (za2.mp w) (λdk st2 q2 vk H2 e2 ok2 zk=>?_) λx st2 q2 H2 e2 ok2=>q2 H2 ((e1.trans e2).f0 R) ok2};cases dk with
    | int j=>
      have zj:vk=.int j:=Is.int_iff.mp (show Is c.K (λb=>¬W.mv b) H2 (.int j) vk from zk.toR);cases hn:ixN l.length j with
      | none=>simp only[hn] at q2;exact(show False from q2).elim
      | some n=>
        simp only[hn] at q2;by_cases hc:d.imm=true
        ·rw[if_pos hc] at q2
         have R2:=R1.ext ok1 e2;have eH2:=e2 ad _ eH nm;have z2:IsL c.K (Av c Y Z) H2 l vs:=zz.mono (e2.keepT ok1 λb a=>⟨a.1,a⟩);have zv:Is c.K (Av c Y Z) H2 d v:=Is.ofImm hc (z.toR.ext e2 ok1);refine{ad,vs,j,n,rfl,zj,eH2,by rw[<-z2.length];exact hn,?_};obtain⟨R3,F3⟩:=R2.wr (d':=.lst (l.set n d)) (o:=.lst (vs.set n v)) (zy8 hd) ea {(λu z=>by cases z),(λob u z=>by cases z)} λkt=>{_,zb3,(z2.set n zv).mono kt}
         exact q2 Y _ ((e1.trans e2).frm.trans F3) (yd8 ok2 nm eH2) R3
        ·rw[if_neg hc] at q2;exact(show False from q2).elim
    | _=>exact(show False from q2).elim
end
end L2
namespace PySem
structure Wlk(prog:Program)(w:World)(it l:Addr)(xs:List Value)(P:Nat->Heap->Prop):Prop where
 keep:∀k h h',P k h->(∀b o,b=it\/b=l->h.get? b=some o->h'.get? b=some o)->P k h'
 item:∀(A:Around) (E:Value->Shared->Prop) (s:Shared) (k:Nat) (x:Value) (Q:Value->Shared->Prop),P k s.heap->xs[k]?=some x->
  (∀h',P (k+1) h'->Heap.SameBut it s.heap h'->Q x { s with heap:=h' })->wpAny 'r' A (Builtin.SmallTypes.nextOf (.ref it)) Q E s
 stop:∀(A:Around) (E:Value->Shared->Prop) (s:Shared) (k:Nat) (Q:Value->Shared->Prop),A.handled=none->P k s.heap->xs[k]?=none->
  (∀h' e,Heap.ExtBut it s.heap h'->(∃o,h'.get? e=some o/\o.cls=.type "StopIteration")->E (.ref e) { s with heap:=h' })->wpAny 'r' A (Builtin.SmallTypes.nextOf (.ref it)) Q E s
section
variable{prog:Program}{w:World}{it l:Addr}{xs:List Value}
def Wlk.tup(hne:it≠l):Wlk prog w it l xs (λk h=>h.IsTupleIter it l k/\h.IsTuple l xs.toArray) where
 keep:=λk h h' ⟨a,b⟩ q=>{a.at λo e=>q it o (.inl rfl) e,by
  obtain⟨o,ho,r⟩:=b;exact{o,q l o (.inr rfl) ho,r}}
 item:=λA E s k x Q ⟨a,b⟩ hx hQ=>zo0 a b (by simpa using hx) λh' a' sb=>hQ h' {a',by
  obtain⟨o,ho,r⟩:=b;exact{o,sb.extBut l o hne.symm ho,r}} sb
 stop:=λA E s k Q hh ⟨a,b⟩ hx hE=>zq1 hh a b (by simpa using hx) hE
def Wlk.lst(hne:it≠l):Wlk prog w it l xs (λk h=>h.IsListIter it l k/\h.IsList l xs.toArray) where
 keep:=λk h h' ⟨a,b⟩ q=>{a.at λo e=>q it o (.inl rfl) e,b.at λo e=>q l o (.inr rfl) e}
 item:=λA E s k x Q ⟨a,b⟩ hx hQ=>wpAny_nextOf_list_item a b (by simpa using hx) λh' a' sb=>hQ h' {a',b.extBut sb.extBut hne.symm} sb
 stop:=λA E s k Q hh ⟨a,b⟩ hx hE=>wpAny_nextOf_list_end hh a b (by simpa using hx) hE
end
section
variable{prog:Program}{w:World}{A:Around}{E:Value->Shared->Prop}{s:Shared}{z TI TO i1 i2 l1 l2:Addr}{xs ys:List Value}{P1 P2:Nat->Heap->Prop}{k:Nat}{x y a b:Value}
structure ZAp(z TI TO i1 i2 l1 l2:Addr):Prop where
 zTI:z≠TI
 zTO:z≠TO
 z1:z≠i1
 z2:z≠i2
 io:TI≠TO
 I1:TI≠i1
 I2:TI≠i2
 O1:TO≠i1
 O2:TO≠i2
 ii:i1≠i2
 lz1:l1≠z
 lo1:l1≠TO
 li1:l1≠i2
 lz2:l2≠z
 lo2:l2≠TO
 li2:l2≠i1
def Wlk.ext(W:Wlk prog w it l xs P){k:Nat}(p:P k h)(e:Heap.ExtBut c h h')(n1:it≠c)(n2:l≠c):P k h':=
 W.keep k h h' p λb o hb q=>by
  rcases hb with r | r
  ·subst r;exact e _ o n1 q
  ·subst r;exact e _ o n2 q
def wa9{Q:Value->Shared->Prop}(W1:Wlk prog w i1 l1 xs P1)(W2:Wlk prog w i2 l2 ys P2)(D:ZAp z TI TO i1 i2 l1 l2)(hz:IsZip s.heap z TI TO .none)(hTI:IsPair s.heap TI (.ref i1) (.ref i2))(hTO:IsPair s.heap TO a b)(p1:P1 k s.heap)(p2:P2 k s.heap)(hx:xs[k]?=some x)(hy:ys[k]?=some y)(hQ:∀h',IsZip h' z TI TO (rawInt s.heap.objs.size)->IsPair h' TO x y->P1 (k+1) h'->P2 (k+1) h'->IsPair h' s.heap.objs.size x y->h'.objs.size=s.heap.objs.size+1->
  (∀c o,c∉[z,TO,i1,i2]->s.heap.get? c=some o->h'.get? c=some o)->Q (.ref s.heap.objs.size) { s with heap:=h' }) :
 wpAny 'r' A (Builtin.«zip.__next__» {[.ref z],[]}) (λfin s'=>∃v,fin=.done (.ret v)/\Q v s') E s:=by
 show wpAny 'r' A (field (.ref z) 2 >>= λ_=>_) _ _ s;refine Aa1 (Ae1 hz rfl (x:=.bool false) rfl ?_);show wpAny 'r' A (field (.ref z) 3 >>= λ_=>_) _ _ s;refine Aa1 (Ae1 hz rfl (x:=.ref TI) rfl (Aa1 (An1 hTI rfl ?_)));show wpAny 'r' A (Builtin.SmallTypes.ownedTupleIsFree (.ref z) >>= λ_=>_) _ _ s;refine Aa1 ?_;unfold Builtin.SmallTypes.ownedTupleIsFree;refine Aa1 (Ae1 hz rfl (x:=.none) rfl (Ac1 ?_));rw[if_pos rfl];refine Aa1 (Aj1 (Aa1 (Ae1 hz rfl (x:=.ref TO) rfl (Aa1 (Ag1 hz 'd' λg1 z1 c1=>?_)))));have z1:IsZip g1 z TI TO .ellipsis:=z1;have c1:Heap.SameBut z s.heap g1:=c1;refine Aa1 ?_;simp only[List.zipIdx_cons,List.zipIdx_nil,List.forIn_cons,List.forIn_nil];refine Aa1 (Aa1 (wpAny_onRaise ?_));show wpAny 'r' _ (Builtin.SmallTypes.nextOf (.ref i1) >>= λ_=>_) _ _ _;refine Aa1 (W1.item _ _ _ k x _ (W1.ext p1 c1.extBut D.z1.symm D.lz1) hx λg2 q1 c2=>Ac1 ?_);have c2:Heap.SameBut i1 g1 g2:=c2;have t2:IsPair g2 TO a b:=c2.extBut _ _ D.O1 (c1.extBut _ _ D.zTO.symm hTO);refine Aa1 (An1 t2 rfl (Aa1 (wpAny_updateSeq_pair t2 λg3 t3 c3=>?_)));have t3:IsPair g3 TO x b:=t3;have c3:Heap.SameBut TO g2 g3:=c3;refine Aa1 (wpAny_letGo (Ac1 (Aa1 (Aa1 (wpAny_onRaise ?_)))));show wpAny 'r' _ (Builtin.SmallTypes.nextOf (.ref i2) >>= λ_=>_) _ _ _;have p2':P2 k g3:=W2.ext (W2.ext (W2.ext p2 c1.extBut D.z2.symm D.lz2) c2.extBut D.ii.symm D.li2) c3.extBut D.O2.symm D.lo2;refine Aa1 (W2.item _ _ _ k y _ p2' hy λg4 q2 c4=>Ac1 ?_);have c4:Heap.SameBut i2 g3 g4:=c4;have t4:IsPair g4 TO x b:=c4.extBut _ _ D.O2 t3;refine Aa1 (An1 t4 rfl (Aa1 (wpAny_updateSeq_pair t4 λg5 t5 c5=>?_)));have t5:IsPair g5 TO x y:=t5;have c5:Heap.SameBut TO g4 g5:=c5;refine Aa1 (wpAny_letGo (Ac1 (Ac1 (Aa1 (An1 t5 rfl (Aa1 (wpAny_newTuple ?_)))))));have sz:g5.objs.size=s.heap.objs.size:=by rw[c5.1,c4.1,c3.1,c2.1,c1.1]
 have k5:∀c o,c∉[z,TO,i1,i2]->s.heap.get? c=some o->g5.get? c=some o:=λc o n e=>by
  simp only[Aj0,Bk0,or_false,not_or] at n;exact c5.extBut _ _ n.2.1 (c4.extBut _ _ n.2.2.2 (c3.extBut _ _ n.2.1 (c2.extBut _ _ n.2.2.1 (c1.extBut _ _ n.1 e))))
 have z5:IsZip g5 z TI TO .ellipsis:=c5.extBut _ _ D.zTO (c4.extBut _ _ D.z2 (c3.extBut _ _ D.zTO (c2.extBut _ _ D.z1 z1)));have r1:P1 (k+1) g5:=W1.ext (W1.ext (W1.ext q1 c3.extBut D.O1.symm D.lo1) c4.extBut D.ii D.li1) c5.extBut D.O1.symm D.lo1;have r2:P2 (k+1) g5:=W2.ext q2 c5.extBut D.O2.symm D.lo2;show wpAny 'r' A (Builtin.SmallTypes.ownedTupleHandOut (.ref z) (.ref g5.objs.size) >>= λ_=>_) _ _ _;refine Aa1 ?_;unfold Builtin.SmallTypes.ownedTupleHandOut;have z6:IsZip (g5.push { cls:=.type "tuple",data:=.seq #[x,y] }) z TI TO .ellipsis:=Ab0 _ z5;have lt:z<g5.objs.size:=Heap.lt_size z5;have n5:(g5.push { cls:=.type "tuple",data:=.seq #[x,y] }).get? g5.objs.size=some { cls:=.type "tuple",data:=.seq #[x,y] }:=Ag0 _ rfl;refine Aa1 (Ag1 z6 'd' λg7 z7 c7=>?_);have z7:IsZip g7 z TI TO (rawInt g5.objs.size):=z7;have c7:Heap.SameBut z (g5.push { cls:=.type "tuple",data:=.seq #[x,y] }) g7:=c7;refine Ag1 z7 'd' λg8 z8 c8=>Ac1 {_,rfl,?_}
 have z8:IsZip g8 z TI TO (rawInt g5.objs.size):=z8;have c8:Heap.SameBut z g7 g8:=c8;have up:∀c o,c≠z->g5.get? c=some o->g8.get? c=some o:=λc o n e=>c8.extBut _ _ n (c7.extBut _ _ n (Ab0 _ e))
 have ex:Heap.ExtBut z g5 g8:=λc o n e=>up c o n e
 have t8:IsPair g8 g5.objs.size x y:=c8.extBut _ _ (Nat.ne_of_gt lt) (c7.extBut _ _ (Nat.ne_of_gt lt) n5);have s8:g8.objs.size=g5.objs.size+1:=by rw[c8.1,c7.1,Bs0]
 show Q (.ref g5.objs.size) _;rw[sz] at z8 t8 s8 ⊢;exact hQ g8 z8 (up _ _ D.zTO.symm t5) (W1.ext r1 ex D.z1.symm D.lz1) (W2.ext r2 ex D.z2.symm D.lz2) t8 s8 λc o n e=>up c o (λh=>n (by simp[h])) (k5 c o n e)
theorem wb0(hh:A.handled=none)(W1:Wlk prog w i1 l1 xs P1)(W2:Wlk prog w i2 l2 ys P2)(D:ZAp z TI TO i1 i2 l1 l2)(hz:IsZip s.heap z TI TO .none)(hTI:IsPair s.heap TI (.ref i1) (.ref i2))(hTO:IsPair s.heap TO a b)(p1:P1 k s.heap)(p2:P2 k s.heap)(hend:xs[k]?=none\/ys[k]?=none)(hE:∀h' e,(∀c o,c∉[z,TO,i1,i2]->s.heap.get? c=some o->h'.get? c=some o)->(∃o,h'.get? e=some o/\o.cls=.type "StopIteration")->E (.ref e) { s with heap:=h' }) :
 wpAny 'r' A (Builtin.«zip.__next__» {[.ref z],[]}) Q E s:=by
 have nz:∀{h:Heap} {e:Addr} {f0:Value} {o:Obj},IsZip h z TI TO f0->h.get? e=some o->o.cls=.type "StopIteration"->e≠z:=λ{h e f0 o} q1 q2 q3 q4=>by
  subst q4;rw[q1] at q2;cases q2;simp at q3
 show wpAny 'r' A (field (.ref z) 2 >>= λ_=>_) _ _ s;refine Aa1 (Ae1 hz rfl (x:=.bool false) rfl ?_);show wpAny 'r' A (field (.ref z) 3 >>= λ_=>_) _ _ s;refine Aa1 (Ae1 hz rfl (x:=.ref TI) rfl (Aa1 (An1 hTI rfl ?_)));show wpAny 'r' A (Builtin.SmallTypes.ownedTupleIsFree (.ref z) >>= λ_=>_) _ _ s;refine Aa1 ?_;unfold Builtin.SmallTypes.ownedTupleIsFree;refine Aa1 (Ae1 hz rfl (x:=.none) rfl (Ac1 ?_));rw[if_pos rfl];refine Aa1 (Aj1 (Aa1 (Ae1 hz rfl (x:=.ref TO) rfl (Aa1 (Ag1 hz 'd' λg1 z1 c1=>?_)))));have z1:IsZip g1 z TI TO .ellipsis:=z1;have c1:Heap.SameBut z s.heap g1:=c1;refine Aa1 ?_;simp only[List.zipIdx_cons,List.zipIdx_nil,List.forIn_cons,List.forIn_nil];refine Aa1 (Aa1 (wpAny_onRaise ?_));show wpAny 'r' _ (Builtin.SmallTypes.nextOf (.ref i1) >>= λ_=>_) _ _ _;have p1':P1 k g1:=W1.ext p1 c1.extBut D.z1.symm D.lz1;cases hx:xs[k]? with
 | none=>
   refine Aa1 (W1.stop _ _ _ k _ hh p1' hx λg2 e c2 he=>?_);obtain⟨oe,ho,hc⟩:=he;have z2:IsZip g2 z TI TO .ellipsis:=c2 _ _ D.z1 z1;refine Ag1 z2 'd' λg3 _ c3=>hE g3 e (λc o n q=>?_) {oe,c3.extBut _ _ (nz z2 ho hc) ho,hc}
   simp only[Aj0,Bk0,or_false,not_or] at n;exact c3.extBut _ _ n.1 (c2 _ _ n.2.2.1 (c1.extBut _ _ n.1 q))
 | some x=>
   have hy:ys[k]?=none:=by
    rcases hend with h | h
    ·rw[hx] at h;cases h
    ·exact h
   refine Aa1 (W1.item _ _ _ k x _ p1' hx λg2 q1 c2=>Ac1 ?_);have c2:Heap.SameBut i1 g1 g2:=c2;have t2:IsPair g2 TO a b:=c2.extBut _ _ D.O1 (c1.extBut _ _ D.zTO.symm hTO);refine Aa1 (An1 t2 rfl (Aa1 (wpAny_updateSeq_pair t2 λg3 t3 c3=>?_)));have c3:Heap.SameBut TO g2 g3:=c3;refine Aa1 (wpAny_letGo (Ac1 (Aa1 (Aa1 (wpAny_onRaise ?_)))));show wpAny 'r' _ (Builtin.SmallTypes.nextOf (.ref i2) >>= λ_=>_) _ _ _;have p2':P2 k g3:=W2.ext (W2.ext (W2.ext p2 c1.extBut D.z2.symm D.lz2) c2.extBut D.ii.symm D.li2) c3.extBut D.O2.symm D.lo2;refine Aa1 (W2.stop _ _ _ k _ hh p2' hy λg4 e c4 he=>?_);obtain⟨oe,ho,hc⟩:=he;have z4:IsZip g4 z TI TO .ellipsis:=c4 _ _ D.z2 (c3.extBut _ _ D.zTO (c2.extBut _ _ D.z1 z1));refine Ag1 z4 'd' λg5 _ c5=>hE g5 e (λc o n q=>?_) {oe,c5.extBut _ _ (nz z4 ho hc) ho,hc}
   simp only[Aj0,Bk0,or_false,not_or] at n;exact c5.extBut _ _ n.1 (c4 _ _ n.2.2.2 (c3.extBut _ _ n.2.1 (c2.extBut _ _ n.2.2.1 (c1.extBut _ _ n.1 q))))
end
instance zO(nm:String)(l:Addr):Obj:={ cls:=.type nm,data:=.fields #[.ref l,.int 0 0] }
instance zA(nm:String)(h:Heap)(l1 l2:Addr):Heap:=(h.push (zO nm l1)).push (zO nm l2)
instance zB(nm:String)(h:Heap)(l1 l2:Addr):Heap:=((zA nm h l1 l2).push { cls:=.type "tuple",data:=.seq #[.ref h.objs.size,.ref (h.push (zO nm l1)).objs.size] }).push { cls:=.type "tuple",data:=.seq #[.none,.none] }
instance zC(nm:String)(h:Heap)(l1 l2:Addr):Heap:=(zB nm h l1 l2).push { cls:=.type "zip",data:=.fields #[.none,.bool false,.bool false,.ref (zA nm h l1 l2).objs.size,.ref ((zA nm h l1 l2).push { cls:=.type "tuple",data:=.seq #[.ref h.objs.size,.ref (h.push (zO nm l1)).objs.size] }).objs.size] }
def xl0(l1 l2:Addr)(xs ys:Array Value) :
 Meets (Builtin.«zip.__new__» {[.type "zip",.ref l1,.ref l2],[]}) (λ_ R s=>s.heap.IsTuple l1 xs/\s.heap.IsTuple l2 ys/\
  R (.ok (.ret (.ref (zB "tuple_iterator" s.heap l1 l2).objs.size))) { s with heap:=zC "tuple_iterator" s.heap l1 l2 }):=
 .of_wp λprog w A R s h=>by
  obtain⟨hp,g,d,tk,os⟩:=s;obtain⟨hl1,hl2,h⟩:=h;have hsub:=sub_zip;have hL1:Heap.IsTuple (Shared.heap ⟨hp,g,d,tk,os⟩) l1 xs:=hl1;have hL2:Heap.IsTuple (Shared.heap ⟨hp.push { cls:=.type "tuple_iterator",data:=.fields #[.ref l1,.int 0 0] },g,d,tk,os⟩) l2 ys:=by
   obtain⟨o,ho,r⟩:=hl2;exact{o,Ab0 _ ho,r}
  wp_walk using wpAny_pyIter_tuple hL1,wpAny_pyIter_tuple hL2
  exact{_,rfl,h}
def xb1(nm:String)(h:Heap)(l1 l2:Addr):(h.push (zO nm l1)).objs.size=h.objs.size+1/\(zA nm h l1 l2).objs.size=h.objs.size+2/\(zB nm h l1 l2).objs.size=h.objs.size+4:=by
 refine{Bs0 ..,?_,?_}
 ·unfold zA;rw[Bs0,Bs0]
 ·unfold zB zA;rw[Bs0,Bs0,Bs0,Bs0]
def xb3(nm:String)(h:Heap)(l1 l2:Addr):IsZip (zC nm h l1 l2) (h.objs.size+4) (h.objs.size+2) (h.objs.size+3) .none/\IsPair (zC nm h l1 l2) (h.objs.size+2) (.ref h.objs.size) (.ref (h.objs.size+1))/\
 IsPair (zC nm h l1 l2) (h.objs.size+3) .none .none/\(zC nm h l1 l2).get? h.objs.size=some (zO nm l1)/\(zC nm h l1 l2).get? (h.objs.size+1)=some (zO nm l2)/\∀c o,h.get? c=some o->(zC nm h l1 l2).get? c=some o:=by
 obtain⟨s1,s2,s4⟩:=xb1 nm h l1 l2;have s3:((zA nm h l1 l2).push { cls:=.type "tuple",data:=.seq #[.ref h.objs.size,.ref (h.push (zO nm l1)).objs.size] }).objs.size=h.objs.size+3:=by rw[Bs0,s2]
 have u:∀{c:Addr} {o:Obj},(zB nm h l1 l2).get? c=some o->(zC nm h l1 l2).get? c=some o:=λ{c o} q=>Ab0 _ q
 have v:∀{c:Addr} {o:Obj},(zA nm h l1 l2).get? c=some o->(zC nm h l1 l2).get? c=some o:=λ{c o} q=>u (Ab0 _ (Ab0 _ q))
 refine{?_,?_,?_,v (Ab0 _ (Ag0 _ rfl)),?_,λc o q=>v (Ab0 _ (Ab0 _ q))}
 ·have q:(zC nm h l1 l2).get? (zB nm h l1 l2).objs.size=some _:=Ag0 _ rfl
  rw[s4,s3,s2] at q;exact q
 ·have q:(zC nm h l1 l2).get? (zA nm h l1 l2).objs.size=some _:=u (Ab0 _ (Ag0 _ rfl))
  rw[s2,s1] at q;exact q
 ·have q:(zC nm h l1 l2).get? ((zA nm h l1 l2).push { cls:=.type "tuple",data:=.seq #[.ref h.objs.size,.ref (h.push (zO nm l1)).objs.size] }).objs.size=some _:=u (Ag0 _ rfl)
  rw[s3] at q;exact q
 ·have q:(zA nm h l1 l2).get? (h.push (zO nm l1)).objs.size=some (zO nm l2):=Ag0 _ rfl
  rw[s1] at q;exact v q
def xz9(hl1:s.heap.IsTuple l1 xs)(hl2:s.heap.IsTuple l2 ys)(h:Q (.ref (s.heap.objs.size+4)) { s with heap:=zC "tuple_iterator" s.heap l1 l2 }):wpAny 'r' A (call (.type "zip") [.ref l1,.ref l2]) Q E s:=by
 refine callType_new F.called_zip 'z' (F.typeCall_zip_2 _ _) (F.newCall_zip_2 _ _) (λobj=>F.args_object_init_3 obj _ _) F.entry_zip_new (xl0 l1 l2 xs ys) {hl1,hl2,?_};obtain⟨q,_⟩:=xb3 "tuple_iterator" s.heap l1 l2;show _/\_;rw[(xb1 "tuple_iterator" s.heap l1 l2).2.2];exact{{_,q,rfl},h}
def wa0(hl1:s.heap.IsList l1 xs)(hl2:s.heap.IsList l2 ys)(h:Q (.ref (s.heap.objs.size+4)) { s with heap:=zC "list_iterator" s.heap l1 l2 }):wpAny 'r' A (call (.type "zip") [.ref l1,.ref l2]) Q E s:=by
 refine callType_new F.called_zip 'z' (F.typeCall_zip_2 _ _) (F.newCall_zip_2 _ _) (λobj=>F.args_object_init_3 obj _ _) F.entry_zip_new (meets_zip_new l1 l2 xs ys) {hl1,hl2,?_};obtain⟨q,_⟩:=xb3 "list_iterator" s.heap l1 l2;show _/\_;refine{{{ cls:=.type "zip",data:=.fields #[.none,.bool false,.bool false,.ref (s.heap.objs.size+2),.ref (s.heap.objs.size+3)] },?_,rfl},?_}
 ·rw[show (zipH4 s.heap l1 l2).objs.size=s.heap.objs.size+4 from (xb1 "list_iterator" s.heap l1 l2).2.2];exact q
 ·rw[show (zipH4 s.heap l1 l2).objs.size=s.heap.objs.size+4 from (xb1 "list_iterator" s.heap l1 l2).2.2];exact h
end PySem
namespace L2
instance Izp(Sq:Hp->List V->List V->Prop):It:=
 {λi H=>∃xs ys x y,Sq H xs ys/\xs[i]?=some x/\ys[i]?=some y,λi H v H'=>∃p x y,H p=none/\v=.ref p/\H'=upd H p (.tup [x,y])/\∀xs ys,Sq H xs ys->xs[i]?=some x/\ys[i]?=some y,λi H=>∃xs ys,Sq H xs ys/\(xs.length<=i\/ys.length<=i)}
structure ZW(P:Program)(w:World)(K:PySem.W.Frag)(l1 l2 i1 i2:Addr)(Sq:Hp->List V->List V->Prop)(T1 T2:Nat->Heap->Prop):Prop where
 obj:∀k h,(T1 k h->∃o,h.get? i1=some o/\∀v,o.data≠.cell v)/\(T2 k h->∃o,h.get? i2=some o/\∀v,o.data≠.cell v)
 keep:∀k h h',(T1 k h->(∀o,h.get? i1=some o->h'.get? i1=some o)->T1 k h')/\(T2 k h->(∀o,h.get? i2=some o->h'.get? i2=some o)->T2 k h')
 there:∀H xs ys,Sq H xs ys->H l1≠none/\H l2≠none
 vals:∀(X:Cx),X.K=K->∀A3 Y H s xs ys,Inv X A3 Y H s->Sq H xs ys->i1≠l1->i2≠l2->∃us vs,vc8 xs us/\vc8 ys vs/\(∀xs' ys',Sq H xs' ys'->xs'=xs/\ys'=ys)/\∃P1 P2:Nat->Heap->Prop,Wlk P w i1 l1 us P1/\Wlk P w i2 l2 vs P2/\
  (∀k,T1 k s.heap->P1 k s.heap)/\(∀k,T2 k s.heap->P2 k s.heap)/\∀k h,(P1 k h->T1 k h)/\(P2 k h->T2 k h)
def nd5(h:[a,b,c,d,e].Nodup):(a≠b/\a≠c/\a≠d/\a≠e)/\(b≠c/\b≠d/\b≠e)/\(c≠d/\c≠e)/\d≠e:=by
 simpa only[Ch0,Aj0,Bk0,or_false,not_or,List.nodup_nil,and_true,not_false_eq_true] using h
def uk0(h:x∈[a,b,c,d,e]):x=a\/x=b\/x=c\/x=d\/x=e:=by
 simpa only[Aj0,Bk0,or_false] using h
def nm5(h:x∉[a,b,c,d,e]):x≠a/\x∉[a,c,d,e]:=by
 simp only[Aj0,Bk0,or_false,not_or] at h ⊢;exact⟨h.1,h.1,h.2.2⟩
def nm4(h1:x≠a)(h2:x≠b)(h3:x≠c)(h4:x≠d):x∉[a,b,c,d]:=by
 simp only[Aj0,Bk0,or_false,not_or];exact⟨h1,h2,h3,h4⟩
def uf9(h:x∈[a,c,d,e]):x∈[a,b,c,d,e]:=by
 simp only[Aj0,Bk0,or_false] at h ⊢;rcases h with r | r | r | r
 ·exact .inl r
 ·exact .inr (.inr (.inl r))
 ·exact .inr (.inr (.inr (.inl r)))
 ·exact .inr (.inr (.inr (.inr r)))
open H in
def xc1{P:Program}{w:World}{K:PySem.W.Frag}{elts:List Expr}{x1}{pos:Pos}{l1 l2 z TI TO i1 i2:Addr}{Sq:Hp->List V->List V->Prop}{T1 T2:Nat->Heap->Prop}(Zv0:ZW P w K l1 l2 i1 i2 Sq T1 T2)(nd:[z,TI,TO,i1,i2].Nodup):vr8 P w K (.Tuple elts x1 pos) (Izp Sq) [z,TI,TO,i1,i2] z (λi h=>IsZip h z TI TO .none/\IsPair h TI (.ref i1) (.ref i2)/\(∃a b,IsPair h TO a b)/\T1 i h/\T2 i h) where
 mem:=by simp
 obj:=λi h st b hb=>by
  obtain⟨h1,h2,⟨_,_,h3⟩,h4,h5⟩:=st;have nc:∀{d:Data} {v:Option Value},d=Data.cell v->(∃u,d=.fields u)\/(∃u n,d=.seq u n)->False:=λe q=>by
   subst e;rcases q with⟨u,q⟩ | ⟨u,n,q⟩<;>cases q
  have hb:=uk0 hb;rcases hb with r | r | r | r | r
  ·subst r;exact{_,h1,λv e=>nc (v:=v) e (.inl {_,rfl})}
  ·subst r;exact{_,h2,λv e=>nc (v:=v) e (.inr {_,_,rfl})}
  ·subst r;exact{_,h3,λv e=>nc (v:=v) e (.inr {_,_,rfl})}
  ·subst r;exact(Zv0.obj i h).1 h4
  ·subst r;exact(Zv0.obj i h).2 h5
 keep:=λi h h' st q=>by
  obtain⟨h1,h2,⟨a,b,h3⟩,h4,h5⟩:=st;exact{q _ 'd' _ h1,q _ 'd' _ h2,{a,b,q _ 'd' _ h3},(Zv0.keep i h h').1 h4 λo e=>q _ 'd' o e,(Zv0.keep i h h').2 h5 λo e=>q _ 'd' o e}
 item:=by
  intro X hP hw hK hc i A3 s Y H E I hf st hg;subst hP hw;obtain⟨xs,ys,x,y,hq,hx,hy⟩:=hg;obtain⟨h1,h2,⟨a,b,h3⟩,h4,h5⟩:=st;obtain⟨n1,n2⟩:=Zv0.there H xs ys hq;have no:∀c∈[z,TI,TO,i1,i2],l1≠c/\l2≠c:=λc hb=>{λe=>n1 (by rw[e];exact(hf c hb).1),λe=>n2 (by rw[e];exact(hf c hb).1)}
  obtain⟨us,vs,ru,rv,inj,P1,P2,W1,W2,p1,p2,pt⟩:=Zv0.vals X hK A3 Y H s xs ys I hq (no i1 'd').1.symm (no i2 'd').2.symm;obtain⟨u,hu,rx⟩:=ru.get hx;obtain⟨v,hv,ry⟩:=rv.get hy;have nd:=nd5 nd;have D:ZAp z TI TO i1 i2 l1 l2:={nd.1.1,nd.1.2.1,nd.1.2.2.1,nd.1.2.2.2,nd.2.1.1,nd.2.1.2.1,nd.2.1.2.2,nd.2.2.1.1,nd.2.2.1.2,nd.2.2.2,(no z 'd').1,(no TO 'd').1,(no i2 'd').1,(no z 'd').2,(no TO 'd').2,(no i1 'd').2};have hT:s.TypeIs (.ref z) "zip":={_,h1,rfl};unfold pyNext;refine Aa1 (wpAny_attempt (wpAny_callSpecial?_slot (name:=Str.ofString "__next__") hT F.slot_zip_next (Ak1 F.slot_zip_next hT F.entry_zip_next (wa9 W1 W2 D h1 h2 h3 (p1 i h4) (p2 i h5) hu hv λh' a1 a2 a3 a4 a5 a6 kk=>Ac1 ?_) (F.args_zip_next_1 _))));refine{_,rfl,wpAny_letOwnedTupleGo_zip (s:={ s with heap:=h' }) a1 λg2 zz sb=>?_};have sb:Heap.SameBut z h' g2:=sb;have lt:∀{c:Addr} {o:Obj},s.heap.get? c=some o->c≠s.heap.objs.size:=λe=>As0 (Heap.lt_size e)
  have k2:∀b o,b∉[z,TI,TO,i1,i2]->s.heap.get? b=some o->g2.get? b=some o:=λb o hb q=>by
   exact sb.extBut b o (nm5 hb).1 (kk b o (nm5 hb).2 q)
  have kTI:g2.get? TI=_:=sb.extBut TI _ D.zTI.symm (kk TI _ (nm4 D.zTI.symm D.io D.I1 D.I2) h2);have tt:IsTup g2 s.heap.objs.size [u,v].toArray/\NoD g2 s.heap.objs.size:={{_,sb.extBut _ _ (lt h1).symm a5,rfl,_,rfl},{_,sb.extBut _ _ (lt h1).symm a5,rfl}};refine{.ref s.heap.objs.size,_,I.turnedT (t':=s.toks) (p:=s.heap.objs.size) (vs:=[x,y]) hf k2 (Ae0 _) (.cons rx (.cons ry .nil)) (by show 2<=sizeLine;decide) tt.1 tt.2,rfl,{_,x,y,I.hok.fresh (Ae0 _),rfl,rfl,λxs' ys' hy'=>by
   obtain⟨e1,e2⟩:=inj xs' ys' hy';rw[e1,e2];exact⟨hx,hy⟩},{zz,kTI,{_,_,sb.extBut _ _ D.zTO.symm a2},(Zv0.keep (i+1) h' g2).1 ((pt (i+1) h').1 a3) λo e=>sb.extBut _ o D.z1.symm e,(Zv0.keep (i+1) h' g2).2 ((pt (i+1) h').2 a4) λo e=>sb.extBut _ o D.z2.symm e},λb hb=>?_}
  have nb:b≠s.heap.objs.size:=by
   have hb:=uk0 hb;rcases hb with r | r | r | r | r
   ·subst r;exact lt h1
   ·subst r;exact lt h2
   ·subst r;exact lt h3
   ·subst r;obtain⟨o,e,_⟩:=(Zv0.obj i s.heap).1 h4;exact lt e
   ·subst r;obtain⟨o,e,_⟩:=(Zv0.obj i s.heap).2 h5;exact lt e
  rw[za8 nb];exact(hf b hb).1
 done:=by
  intro X hP hw hK hc i A3 s Y H E I hf st hg;subst hP hw;obtain⟨xs,ys,hq,hx⟩:=hg;obtain⟨h1,h2,⟨a,b,h3⟩,h4,h5⟩:=st;obtain⟨n1,n2⟩:=Zv0.there H xs ys hq;have no:∀c∈[z,TI,TO,i1,i2],l1≠c/\l2≠c:=λc hb=>{λe=>n1 (by rw[e];exact(hf c hb).1),λe=>n2 (by rw[e];exact(hf c hb).1)}
  obtain⟨us,vs,ru,rv,inj,P1,P2,W1,W2,p1,p2,pt⟩:=Zv0.vals X hK A3 Y H s xs ys I hq (no i1 'd').1.symm (no i2 'd').2.symm;have nd:=nd5 nd;have D:ZAp z TI TO i1 i2 l1 l2:={nd.1.1,nd.1.2.1,nd.1.2.2.1,nd.1.2.2.2,nd.2.1.1,nd.2.1.2.1,nd.2.1.2.2,nd.2.2.1.1,nd.2.2.1.2,nd.2.2.2,(no z 'd').1,(no TO 'd').1,(no i2 'd').1,(no z 'd').2,(no TO 'd').2,(no i1 'd').2};have hT:s.TypeIs (.ref z) "zip":={_,h1,rfl};have en:us[i]?=none\/vs[i]?=none:=by
   rcases hx with hx | hx
   ·exact .inl (List.getElem?_eq_none (by rw[<-ru.length];exact hx))
   ·exact .inr (List.getElem?_eq_none (by rw[<-rv.length];exact hx))
  unfold pyNext;refine Aa1 (wpAny_attempt (wpAny_callSpecial?_slot (name:=Str.ofString "__next__") hT F.slot_zip_next (Ak1 F.slot_zip_next hT F.entry_zip_next (wb0 (I.ok.hd hc) W1 W2 D h1 h2 h3 (p1 i h4) (p2 i h5) en λh' e kk he=>?_) (F.args_zip_next_1 _))));obtain⟨o,ho,hcls⟩:=he;refine Aa1 (wpAny_isInstance (T:="StopIteration") (b:=true) ⟨o,ho,hcls⟩ isSubtype_stop (Ac1 {rfl,I.turnedF hf λb o hb q=>kk b o (λn=>hb (uf9 n)) q}))
 self:=λ_ _ _ _ _ st h=>wpAny_pyIter_zip st.1 h
instance ud7(a b:Addr):Hp->List V->List V->Prop:=λH xs ys=>H a=some (.tup xs)/\H b=some (.tup ys)
instance ud8(a b:Addr):Hp->List V->List V->Prop:=λH xs ys=>Rd H a (.lst xs)/\Rd H b (.lst ys)
def ws7{P:Program}{w:World}{K:PySem.W.Frag}{l1 l2 i1 i2:Addr}:ZW P w K l1 l2 i1 i2 (ud7 l1 l2) (λk h=>h.IsTupleIter i1 l1 k) (λk h=>h.IsTupleIter i2 l2 k) where
 obj:=λk h=>{λ⟨o,ho,c,d⟩=>{o,ho,λv z=>by rw[d] at z;cases z},λ⟨o,ho,c,d⟩=>{o,ho,λv z=>by rw[d] at z;cases z}}
 keep:=λk h h'=>{λa q=>a.at q,λa q=>a.at q}
 there:=λH xs ys q=>{(λz=>by rw[q.1] at z;cases z),(λz=>by rw[q.2] at z;cases z)}
 vals:=λX hK A3 Y H s xs ys I q n1 n2=>by
  obtain⟨us,ru,t1,_⟩:=I.tuple (SqT.of q.1);obtain⟨vs,rv,t2,_⟩:=I.tuple (SqT.of q.2);exact{us,vs,ru,rv,λxs' ys' q'=>{I.tuple_inj (SqT.of q'.1) (SqT.of q.1),I.tuple_inj (SqT.of q'.2) (SqT.of q.2)},_,_,Wlk.tup n1,Wlk.tup n2,λk z=>⟨z,t1⟩,λk z=>⟨z,t2⟩,λk h=>{λz=>z.1,λz=>z.1}}
def ws8{P:Program}{w:World}{K:PySem.W.Frag}{l1 l2 i1 i2:Addr}:ZW P w K l1 l2 i1 i2 (ud8 l1 l2) (λk h=>h.IsListIter i1 l1 k) (λk h=>h.IsListIter i2 l2 k) where
 obj:=λk h=>{λ⟨o,ho,c,d⟩=>{o,ho,λv z=>by rw[d] at z;cases z},λ⟨o,ho,c,d⟩=>{o,ho,λv z=>by rw[d] at z;cases z}}
 keep:=λk h h'=>{λa q=>a.at q,λa q=>a.at q}
 there:=λH xs ys q=>{(λz=>by rcases q.1 with e | ⟨_,e⟩<;>(rw[e] at z;cases z)),(λz=>by rcases q.2 with e | ⟨_,e⟩<;>(rw[e] at z;cases z))}
 vals:=λX hK A3 Y H s xs ys I q n1 n2=>by
  obtain⟨us,ru,t1,_⟩:=I.list (.inl q.1);obtain⟨vs,rv,t2,_⟩:=I.list (.inl q.2);exact{us,vs,ru,rv,λxs' ys' q'=>{I.list_inj (.inl q'.1) (.inl q.1),I.list_inj (.inl q'.2) (.inl q.2)},_,_,Wlk.lst n1,Wlk.lst n2,λk z=>⟨z,t1.isList⟩,λk z=>⟨z,t2.isList⟩,λk h=>{λz=>z.1,λz=>z.1}}
section
variable{X:Cx}{elts:List Expr}{x1:Nat}{tpos:Pos}
def uf7(n:Nat):[n+4,n+2,n+3,n,n+1].Nodup:=by
 simp only[Ch0,Aj0,Bk0,or_false,not_or,List.nodup_nil,and_true,not_false_eq_true];omega
def wi6{b n:Nat}(h:b∈[n+4,n+2,n+3,n,n+1]):n<=b:=by
 simp only[Aj0,Bk0,or_false] at h;omega
instance um9(ta:TA):TI:=λY H R=>ta Y H λvs H1=>∃a b xs ys,vs=[.ref a,.ref b]/\((ud7 a b H1 xs ys/\R (Izp (ud7 a b)) H1)\/(ud8 a b H1 xs ys/\R (Izp (ud8 a b)) H1))
theorem wv5{e1 e2:Expr}{ta:TA}{p pos:Pos}(hg:Gl X "zip")(hm:X.mg "zip" = none)(ha:PA X [e1,e2] ta)(hs:autoParam (starEach [e1,e2] X.env=(false,eval e1 X.env)::starEach [e2] X.env) uR)(hs2:autoParam (starEach [e2] X.env=[(false,eval e2 X.env)]) uR):PI X (.Tuple elts x1 tpos) (.Call (.Name "zip" p) [e1,e2] [] pos) (um9 ta):=by
 intro A3 s Y H R I h;refine Call_ (zz8 I hg hm boot_zip (PyProof.Rows.callWith_type1 (thn (ha pos A3 s Y H _ I h) λus s1 hI115=>?_) hs (by rw[hs2];rfl)));obtain⟨vs,H1,I1,r1,q1⟩:=hI115;obtain⟨a,b,xs,ys,rfl,q⟩:=q1;cases r1 with
 | cons r rr=>
   cases rr with
   | cons r' rr=>
     cases rr;cases r;cases r';have nd:=uf7 s1.heap.objs.size;have fr:∀b∈[s1.heap.objs.size+4,s1.heap.objs.size+2,s1.heap.objs.size+3,s1.heap.objs.size,s1.heap.objs.size+1],vm4 X A3 H1 b:=λb hb=>I1.fpOk (wi6 hb) (I1.hok.fresh (wi6 hb))
     rcases q with⟨hq,q⟩ | ⟨hq,q⟩
     ·obtain⟨us,ru,t1,_⟩:=I1.tuple (SqT.of hq.1)
      obtain⟨vs,rv,t2,_⟩:=I1.tuple (SqT.of hq.2);refine xz9 (show s1.heap.IsTuple a us.toArray from t1) (show s1.heap.IsTuple b vs.toArray from t2) ?_;obtain⟨z1,z2,z3,z4,z5,kk⟩:=xb3 "tuple_iterator" s1.heap a b;refine wpAny_pyIter_zip (s:={ s1 with heap:=zC "tuple_iterator" s1.heap a b }) z1 ?_;exact{_,_,_,_,H1,rfl,I1.kept (t':=s1.toks) kk,xc1 ws7 nd,{z1,z2,{_,_,z3},{_,z4,rfl,rfl},{_,z5,rfl,rfl}},fr,q}
     ·obtain⟨us,ru,t1,_⟩:=I1.list (.inl hq.1)
      obtain⟨vs,rv,t2,_⟩:=I1.list (.inl hq.2);refine wa0 t1.isList t2.isList ?_;obtain⟨z1,z2,z3,z4,z5,kk⟩:=xb3 "list_iterator" s1.heap a b;refine wpAny_pyIter_zip (s:={ s1 with heap:=zC "list_iterator" s1.heap a b }) z1 ?_;exact{_,_,_,_,H1,rfl,I1.kept (t':=s1.toks) kk,xc1 ws8 nd,{z1,z2,{_,_,z3},{_,z4,rfl,rfl},{_,z5,rfl,rfl}},fr,q}
variable{S:Type}{W:Wd S}{c:Dx W}{g:Gr}
instance tDB{S:Type}{W:Wd S}(c:Dx W)(f:FnA S):TA:=λY H Q=>∃Z st,Rep c H Y Z/\W.ok st H/\
 wpR (f Z st) (λl st'=>∀vs H',Ext W H H'->W.ok st' H'->IsL c.K (Av c Y Z) H' l vs->Q vs H') λx st'=>∀H',Ext W H H'->W.ok st' H'->c.Ex x st' H'
instance DB(X:Cx){S:Type}{W:Wd S}(c:Dx W)(es:List Expr)(f:FnA S):Prop:=PA X es (tDB c f)
def zu3:DB X c [] (vx2 S):=zn8.imp λY H Q ⟨Z,st,R,ok,w⟩=>w [] H Ext.refl ok (IsL.nil.mpr rfl)
def ze4(h:DE X c .B e f)(hr:DB X c es r)(hs:autoParam (starEach (e::es) X.env=(false,eval e X.env)::starEach es X.env) uR):DB X c (e::es) (vf8 S f r):=
 (zf6 h hr hs).imp λY H Q hI34=>by
  obtain⟨Z,st,R,ok,w⟩:=hI34;refine{Z,st,R,ok,za6 (za2.mp w) (λd st1 q v H1 e ok1 z=>?_) λx st1 q=>q};refine{Z,st1,R.ext ok e,ok1,za6 (za2.mp q) (λl st2 q vs H2 e2 ok2 z2=>?_) λx st2 q H2 e2 ok2=>q H2 (e.trans e2) ok2};have z:Is c.K (Av c Y Z) H1 d v:=z;exact q (v::vs) H2 (e.trans e2) ok2 (IsL.cons.mpr {v,vs,rfl,z.ext e2 ok1 (λb n=>n.1),z2})
instance vh2(l m:List D):List D:=List.zipWith (λa b=>.tup [a,b]) l m
instance D.tupL:D->Option (List D)
 | .tup l=>some l
 | _=>none
theorem D.tupL_eq{d:D}{l:List D}(h:d.tupL=some l):d=.tup l:=by
 cases d with
 | tup m=>cases h;rfl
 | _=>cases h
instance uj7(l:List D):Option (List D):=match l with
 | [a,b]=>(a.tupL.bind λl=>b.tupL.map (vh2 l)).or (a.asL.bind λl=>b.asL.map (vh2 l))
 | _=>none
theorem ys3{i:Nat}(h:(vh2 l m)[i]?=some d):∃x y,l[i]?=some x/\m[i]?=some y/\d=.tup [x,y]:=by
 unfold vh2 at h;rw[List.getElem?_zipWith] at h;cases q:l[i]? with
 | none=>rw[q] at h;simp at h
 | some x=>
   cases q2:m[i]? with
   | none=>rw[q,q2] at h;simp at h
   | some y=>rw[q,q2] at h;cases h;exact⟨x,y,rfl,rfl,rfl⟩
def xk6{i:Nat}(h:(vh2 l m).length<=i):l.length<=i\/m.length<=i:=by
 unfold vh2 at h;rw[List.length_zipWith] at h;omega
def xb2(hi:∀(c':Dx W) Y2 Z2 H2,vd1 (Av c Y Z) (Av c' Y2 Z2) H1 H2->Sq H2 xs ys)(i1:IsL c.K (Av c Y Z) H1 l xs)(i2:IsL c.K (Av c Y Z) H1 m ys):xi7 c Y Z H1 (Izp Sq) (vh2 l m):=by
 intro c' hK' Y2 Z2 H2 st2 k R2 ok2 j;have s2:Sq H2 xs ys:=hi c' Y2 Z2 H2 k;have j1:IsL c.K (Av c' Y2 Z2) H2 l xs:=i1.mono k;have j2:IsL c.K (Av c' Y2 Z2) H2 m ys:=i2.mono k;refine{λd hd=>?_,λhl=>{xs,ys,s2,by rw[<-j1.length,<-j2.length];exact xk6 hl}};obtain⟨x,y,hx,hy,rfl⟩:=ys3 hd;obtain⟨v1,hv1,iv1⟩:=j1.get hx;obtain⟨v2,hv2,iv2⟩:=j2.get hy;refine{⟨xs,ys,v1,v2,s2,hv1,hv2⟩,?_};rintro x' H3 ⟨pp,u1,u2,hpn,rfl,rfl,hx'⟩;obtain⟨e1,e2⟩:=hx' xs ys s2;rw[hv1] at e1;cases e1;rw[hv2] at e2;cases e2;have sm:vk5 H2 (upd H2 pp (.tup [v1,v2])):=λb o hb=>by rw[za8 (zb5 hb hpn)];exact hb
 have kk:vd1 (Av c' Y2 Z2) (Av c' Y2 Z2) H2 (upd H2 pp (.tup [v1,v2])):=zh7 (λb o hb _=>sm b o hb) λb o a hb=>{a,sm b o hb}
 exact{sm,Is.tup zb3 (IsL.cons.mpr {_,_,rfl,iv1.mono kk,IsL.one (iv2.mono kk)})}
open H in
def va2(hg:Gl X "zip")(hm:X.mg "zip" = none)(ha:DB X c [e1,e2] f)(hs:autoParam (starEach [e1,e2] X.env=(false,eval e1 X.env)::starEach [e2] X.env) uR)(hs2:autoParam (starEach [e2] X.env=[(false,eval e2 X.env)]) uR):DI X c (.Tuple elts x1 tpos) (.Call (.Name "zip" p) [e1,e2] [] pos) (vk8 S uj7 f):=
 (wv5 hg hm ha hs hs2).imp λY H R hI35=>by
  obtain⟨Z,st,R0,ok,w⟩:=hI35;refine{Z,st,R0,ok,za6 (za2.mp w) (λl st1 q vs H1 e ok1 z=>?_) λx st1 q=>q};obtain⟨m,e1,q⟩:=za9.mp q;cases l with
  | nil=>cases e1
  | cons d1 r=>cases r with
    | nil=>cases e1
    | cons d2 r=>cases r with
      | cons _ _=>cases e1
      | nil=>
        have e1:(d1.tupL.bind λl=>d2.tupL.map (vh2 l)).or (d1.asL.bind λl=>d2.asL.map (vh2 l))=some m:=e1;obtain⟨v,r,e2,i2,i3⟩:=IsL.cons.mp z;obtain⟨v',r',e3,i3,i4⟩:=IsL.cons.mp i3;cases q1:(d1.tupL.bind λl=>d2.tupL.map (vh2 l)) with
        | some x=>
          rw[q1] at e1;cases e1;obtain⟨l,h1,h2⟩:=Option.bind_eq_some_iff.mp q1;obtain⟨l',h3,rfl⟩:=Option.map_eq_some_iff.mp h2;rw[D.tupL_eq h1] at i2;rw[D.tupL_eq h3] at i3;obtain⟨a,xs,ea,s0,i⟩:=Is.tup_iff.mp i2;obtain⟨b,ys,eb,t0,j⟩:=Is.tup_iff.mp i3;rw[e3,IsL.nil.mp i4,ea,eb] at e2;exact{a,b,xs,ys,e2,.inl {⟨s0,t0⟩,q _ H1 e ok1 (xb2 (λc' Y2 Z2 H2 k=>{k.tup a xs s0,k.tup b ys t0}) i j)}}
        | none=>
          rw[q1] at e1;obtain⟨l,h1,h2⟩:=Option.bind_eq_some_iff.mp e1;obtain⟨l',h3,rfl⟩:=Option.map_eq_some_iff.mp h2;obtain⟨a,xs,ea,s0,i,k0⟩:=Is.asL i2 h1;obtain⟨b,ys,eb,t0,j,k1⟩:=Is.asL i3 h3;rw[e3,IsL.nil.mp i4,ea,eb] at e2;exact{a,b,xs,ys,e2,.inr {⟨s0,t0⟩,q _ H1 e ok1 (xb2 (λc' Y2 Z2 H2 k=>{k0 _ _ k,k1 _ _ k}) i j)}}
end
end L2
namespace HT
open PySem PyProof.Rows
end HT
namespace L2
section
variable{X:Cx}{e st:Expr}{te ts:TE}{p2 pos:Pos}
end
section
variable{X:Cx}{S:Type}{W:Wd S}{c:Dx W}{g ga gb:Gr}{a b:Expr}{fa fb:Fn S}{pos p2:Pos}
noncomputable abbrev FnO(S:Type):=Rho->S->Res S (Option Int)
instance tDO{S:Type}{W:Wd S}(c:Dx W)(f:FnO S):TO:=λY H Q=>∃Z st,Rep c H Y Z/\W.ok st H/\
 wpR (f Z st) (λo st'=>∀H',Ext W H H'->W.ok st' H'->Q o H') λx st'=>∀H',Ext W H H'->W.ok st' H'->c.Ex x st' H'
instance DO(X:Cx){S:Type}{W:Wd S}(c:Dx W)(e:Option Expr)(f:FnO S):Prop:=PO X e (tDO c f)
def PO.imp(h:PO X e t)(i:∀Y H Q,t' Y H Q->t Y H Q):PO X e t':=λA3 s Y H Q I q=>h A3 s Y H Q I (i Y H Q q)
instance pNo(S:Type):FnO S:=λ_ st=>.ok none st
instance D.int?:D->Option Int
 | .int i=>some i
 | _=>none
instance pSo(S:Type)(f:Fn S):FnO S:=λZ st=>(f Z st).bind λd st1=>(vd2 d.int? st1).bind λi st2=>.ok (some i) st2
def wr4:DO X c none (pNo S):=xq5.imp λY H Q ⟨Z,st,R,ok,w⟩=>w H Ext.refl ok
theorem wr3(h:DE X c g a fa):DO X c (some a) (pSo S fa):=(xq4 h).imp λY H Q hI36=>by
 obtain⟨Z,st,R,ok,w⟩:=hI36;refine{Z,st,R,ok,za6 (za2.mp w) (λd st1 q v H1 e ok1 z=>?_) λx st1 q=>q};obtain⟨i,e1,q⟩:=za9.mp (za2.mp q);cases d with
 | int j=>cases e1;exact{_,Is.int_iff.mp (show Is c.K (λb=>¬W.mv b) H1 (.int i) v from z.toR),q H1 e ok1}
 | _=>cases e1
instance vo5(xs:List D)(lo hi:Option Int):List D:=(xs.drop (HT.sIx xs.length 0 lo)).take (HT.sIx xs.length xs.length hi-HT.sIx xs.length 0 lo)
def xa3{K:PySem.W.Frag}{A:Addr->Prop}{H:Hp}{l:List D}{vs:List V}{lo hi:Option Int}(h:IsL K A H l vs):IsL K A H (vo5 l lo hi) (vp9 vs lo hi):=by
 unfold vo5 vp9;rw[h.length];exact(h.drop _).take _
theorem yu6:∀{l:List D} {n:Nat},D.immL l=true->D.immL (l.take n)=true
 | [],_,_=>by simp[D.immL]
 | _::_,0,_=>by simp[D.immL]
 | x::l,n+1,m=>by
   have m':x.imm=true/\D.immL l=true:=by simpa [D.immL] using m
   simp only[List.take_succ_cons,D.immL,m'.1,yu6 m'.2,Ca0]
theorem yu9:∀{l:List D} {n:Nat},D.immL l=true->D.immL (l.drop n)=true
 | [],_,_=>by simp[D.immL]
 | _::_,0,m=>m
 | x::l,n+1,m=>by
   have m':x.imm=true/\D.immL l=true:=by simpa [D.immL] using m
   exact yu9 (l:=l) (n:=n) m'.2
def yn9{l:List D}{lo hi:Option Int}(m:D.immL l=true):D.immL (vo5 l lo hi)=true:=yu6 (yu9 m)
instance uf5(lo hi:Option Int):D->Option D
 | .lst l=>if D.immL l=true then some (.lst (vo5 l lo hi)) else none
 | .fl l=>if D.immL l=true then some (.lst (vo5 l lo hi)) else none
 | .tup l=>if D.immL l=true/\¬(HT.sIx l.length 0 lo=0/\HT.sIx l.length l.length hi=l.length) then some (.tup (vo5 l lo hi)) else none
 | _=>none
instance uh1(S:Type)(f:Fn S)(lo hi:FnO S):Fn S:=λZ st=>(f Z st).bind λd st1=>(lo Z st1).bind λl st2=>(hi Z st2).bind λh st3=>vd2 (uf5 l h d) st3
open H in
def vb2{lo hi:Option Expr}{fl fh:FnO S}(hK:c.K=X.K)(ha:DE X c ga a fa)(hl:DO X c lo fl)(hh:DO X c hi fh):DE X c g (.Subscript a (.Slice lo hi none p2) pos) (uh1 S fa fl fh):=
 (xd5 (xo4.or wu6) ha hl hh).imp λY H Q hI37=>by
  obtain⟨Z,st,R,ok,w⟩:=hI37;refine{Z,st,R,ok,za6 (za2.mp w) (λd st1 q v H1 e ok1 z=>?_) λx st1 q=>q};refine{Z,st1,R.ext ok e,ok1,za6 (za2.mp q) (λl st2 q H2 e2 ok2=>?_) λx st2 q H2 e2 ok2=>q H2 (e.trans e2) ok2};have R2:=(R.ext ok e).ext ok1 e2;refine{Z,st2,R2,ok2,za6 (za2.mp q) (λh st3 q H3 e3 ok3=>?_) λx st3 q H3 e3 ok3=>q H3 ((e.trans e2).trans e3) ok3};obtain⟨dd,e4,q⟩:=za9.mp q;have ez:Ext W H1 H3:=e2.trans e3;have z3:Is c.K (λb=>¬W.mv b) H3 d v:=z.toR.ext ez ok1;have R3:=R2.ext ok2 e3;have et:Ext W H H3:=e.trans ez;cases d with
  | lst m=>
    have e4:(if D.immL m=true then some (D.lst (vo5 m l h)) else none)=some dd:=e4;split at e4
    ·rename_i im
     cases e4;obtain⟨p,vs,ev,n,s0,i⟩:=Is.lst_iff.mp z3;refine .inl {p,vs,ev,.of s0,λr hr=>?_};exact q _ _ (et.trans (Ext.laid hr)) (zd9 ok3 hr) ((New.val R3 (New.lst ok3 hr (λ_ n=>n) (yn9 im) (xa3 i)) g).back et ok3)
    ·cases e4
  | fl m=>
    have e4:(if D.immL m=true then some (D.lst (vo5 m l h)) else none)=some dd:=e4;split at e4
    ·rename_i im
     cases e4;obtain⟨p,vs,ev,s0,i,_⟩:=Is.asL z3 rfl;refine .inl {p,vs,ev,.inl s0,λr hr=>?_};exact q _ _ (et.trans (Ext.laid hr)) (zd9 ok3 hr) ((New.val R3 (New.lst ok3 hr (λ_ n=>n) (yn9 im) (xa3 i)) g).back et ok3)
    ·cases e4
  | tup m=>
    have e4:(if D.immL m=true/\¬(HT.sIx m.length 0 l=0/\HT.sIx m.length m.length h=m.length) then some (D.tup (vo5 m l h)) else none)=some dd:=e4;split at e4
    ·rename_i im
     cases e4;obtain⟨p,vs,ev,s0,i⟩:=Is.tup_iff.mp z3;refine .inr {p,vs,ev,.of s0,by rw[<-i.length];exact im.2,λr hr=>?_};exact q _ _ (et.trans (Ext.laid hr)) (zd9 ok3 hr) ((New.val R3 (New.tup ok3 hr (λ_ n=>n) (yn9 im.1) (xa3 i)) g).back et ok3)
    ·cases e4
  | _=>cases e4
instance zu1:List D->Option (List Int)
 | []=>some []
 | .int i::l=>(zu1 l).map λr=>i::r
 | _=>none
theorem yu4{K:PySem.W.Frag}{A:Addr->Prop}{H:Hp}:∀{l:List D} {vs:List V} {ns:List Int},zu1 l=some ns->IsL K A H l vs->vs=ns.map V.int
 | [],vs,ns,e,h=>by cases e;rw[IsL.nil.mp h];rfl
 | .int i::l,vs,ns,e,h=>by
   unfold zu1 at e;cases q:zu1 l with
   | none=>rw[q] at e;cases e
   | some r=>
     rw[q] at e;cases e;obtain⟨v,r',e1,i1,i2⟩:=IsL.cons.mp h;rw[e1,Is.int_iff.mp i1,yu4 q i2];rfl
 | .non::_,_,_,e,_=>by cases e
 | .bl _::_,_,_,e,_=>by cases e
 | .str _::_,_,_,e,_=>by cases e
 | .tup _::_,_,_,e,_=>by cases e
 | .lst _::_,_,_,e,_=>by cases e
 | .dct _ _::_,_,_,e,_=>by cases e
 | .fl _::_,_,_,e,_=>by cases e
 | .fd _ _::_,_,_,e,_=>by cases e
instance uj2(S:Type):FnS S:=λ_ _=>.bad
def wj6:DS X c s (uj2 S):=λA3 s Y H D I ⟨_,_,_,_,w⟩=>w.elim
end
section
variable{S:Type}
instance uj0(S:Type)(i j:Nat)(f:FnA S):FnS S:=λZ st=>(f Z st).bind λl st1=>match l with
 | [d,e]=>(vd2 (put Z i d) st1).bind λZ1 st2=>(vd2 (put Z1 j e) st2).bind λZ2 st3=>.ok (.nx Z2) st3
 | _=>.bad
open H in
def zm3{i:Nat}(h:put Z i d=some Z'):i<Z.length/\Z'=Z.set i (.bor d):=by
 unfold put at h;split at h
 ·rename_i hi;cases h;exact⟨hi,rfl⟩
 ·cases h
open H in
def xg6{i j:Nat}{x y:Str}{kt k2 pt2}(hc:X.calm=true)(hN:X.N.Nodup)(hi:X.N[i]?=some x)(hj:X.N[j]?=some y)(hij:i≠j)(hx:X.env.scope.names.lookup x=some .local)(hy:X.env.scope.names.lookup y=some .local)(ha:DB X c [a,b] f)(hw:swappedStores [.Tuple [.Name x px,.Name y py] kt pt] (.Tuple [a,b] k2 pt2) X.env=pure (some [x,y]))(hs:autoParam (swapsWithSole [.Tuple [.Name x px,.Name y py] kt pt] (.Tuple [a,b] k2 pt2) pos.line X.env=pure false) uR) :
 DS X c (.Assign [.Tuple [.Name x px,.Name y py] kt pt] (.Tuple [a,b] k2 pt2) pos) (uj0 S i j f):=
 (wv1 hc hN hi hj hij hx hy ha hw hs).imp λD Y H hI38=>by
  obtain⟨Z,st,R,ok,w⟩:=hI38;refine{Z,st,R,ok,za6 (za2.mp w) (λl st1 q vs H1 e ok1 z=>?_) λx st1 q H' e ok'=>q H' (e.f0 R) ok'};split at q
  ·rename_i d e'
   obtain⟨v,r,e2,i2,i3⟩:=IsL.cons.mp z;obtain⟨v',r',e3,i3,i4⟩:=IsL.cons.mp i3;rw[e3,IsL.nil.mp i4] at e2;obtain⟨Z1,e4,q⟩:=za9.mp (za2.mp q);obtain⟨Z2,e5,q⟩:=za9.mp (za2.mp q);obtain⟨h4,rfl⟩:=zm3 e4;obtain⟨h5,rfl⟩:=zm3 e5;have R1:=(R.ext ok e).setB h4 i2;have k1:vd1 (Av c Y Z) (Av c (Y.set i (some v)) (Z.set i (.bor d))) H1 H1:=Frm.keepT (R.ext ok e) ok1 ze8;have R2:=R1.setB h5 (i3.mono k1);exact{v,v',e2,q _ _ ((Ext.frm e).trans (ze8.trans ze8)) ok1 R2}
  ·exact q.elim
end
section
variable{X:Cx}{S:Type}{W:Wd S}{c:Dx W}{g ga gb:Gr}{a b:Expr}{fa fb:Fn S}{pos p2:Pos}
instance ve7(a b:D):Option D:=(vg7 (λi j=>.int (i+j)) a b).or ((vu9 a b).or ((vu8 a b).or (xs6 a b)))
def xr8:OpR X (binaryOp .Add) (λx y H Q=>rI0 (λi j=>.int (i+j)) x y H Q\/(ub2 x y H Q\/(vq7 X.K x y H Q\/xd0 X.K x y H Q))):=ys5.or (ww6.or (wo4.or wd6))
def xs1{K:PySem.W.Frag}(hK:c.K=K):OpD c (λx y H Q=>rI0 (λi j=>.int (i+j)) x y H Q\/(ub2 x y H Q\/(vq7 K x y H Q\/xd0 K x y H Q))) ve7:=vj8.or (wx0.or ((wo8 hK).or wd8))
instance D.seq?:D->Option (List D)
 | .tup l=>some l
 | .lst l=>some l
 | _=>none
theorem zk6{tg e:Expr}{f:Fn S}(hK:c.K=X.K)(h:DE X c .B e f):DI X c tg e (vp6 S D.seq? f):=by
 intro A3 s Y H R I q;obtain⟨Z,st,R0,ok,w⟩:=q;unfold vp6 at w;cases q:f Z st with
 | bad=>rw[q] at w;exact w.elim
 | exc x st1=>
   refine wj9 (tg:=tg) hK h A3 s Y H R I {Z,st,R0,ok,?_};unfold vp6;rw[q] at w ⊢;exact w
 | ok d st1=>
   rw[q] at w;cases d with
   | tup l=>
     refine wj9 (tg:=tg) hK h A3 s Y H R I {Z,st,R0,ok,?_};unfold vp6;rw[q];exact w
   | lst l=>
     refine va3 (tg:=tg) hK h A3 s Y H R I {Z,st,R0,ok,?_};unfold vp6;rw[q];exact w
   | _=>exact w.elim
instance vy6(S:Type)(i:Nat)(f:Fn S)(o:Int->Int->Int):FnS S:=λZ st=>match rd Z i with
 | some (.int a)=>(f Z st).bind λd st1=>match d with
   | .int b=>(vd2 (put Z i (.int (o a b))) st1).bind λZ1 st2=>.ok (.nx Z1) st2
   | _=>.bad
 | _=>.bad
open H in
def va0{i:Nat}{x:Str}{e:Expr}{f:Fn S}{op:Operator}{o:Int->Int->Int}{p:Pos}(hN:X.N.Nodup)(hi:X.N[i]?=some x)(hx:Loc X.env.scope x)(ho:PIp X op (ipI o))(he:DE X c .R e f)(hf:X.fn x=true\/X.env.scope.names.lookup x=some .local:=by first | exact .inl rfl | exact .inr rfl | assumption) :
 DS X c (.AugAssign (.Name x p) op e pos) (vy6 S i f o):=
 (wv3 hN hi hx he ho hf).imp λD Y H hI39=>by
  obtain⟨Z,st,R,ok,w⟩:=hI39;unfold vy6 at w;split at w
  ·rename_i a0 hr
   obtain⟨v,hv,iv⟩:=R.rd hr;refine{v,hv,Z,st,R,ok,za6 (za2.mp w) (λd st1 q v2 H1 e ok1 z=>?_) λx st1 q H' e ok'=>q H' (e.f0 R) ok'};split at q
   ·rename_i b0
    obtain⟨Z1,e4,q⟩:=za9.mp (za2.mp q);obtain⟨h4,rfl⟩:=zm3 e4;have R1:=R.ext ok e;have z':Is c.K (λb=>¬W.mv b) H1 (.int b0) v2:=z.toR;exact{a0,b0,Is.int_iff.mp iv,Is.int_iff.mp z',q _ _ ((Ext.frm e).trans ze8) ok1 (R1.setB h4 (Is.int_iff.mpr rfl))}
   ·exact q.elim
  ·exact w.elim
instance uk8:List D->Res Unit D:=λ_=>.bad
def wz4{P:Program}{w:World}{K:PySem.W.Frag}{mg:Str->Option Value}{base:Heap}{f:Addr}{fd:FuncData}{ps:List Str}{k:Nat}:vk3 P w K mg base CX0 k f fd ps (sp0 K uk8):=
 {λvs H Q E ⟨_,_,h⟩=>h.elim,λA outer s H args us vs Q E _ _ _ _ ⟨_,_,h⟩=>h.elim}
def vd9{id:String}{x:Str}{p pos:Pos}{e:Expr}{es:List Expr}{r:List V->Hp->VK->Prop}{o:List D->Option D}{f:FnA S}(ha:DA X c (e::es) f)(hc:vf3 X (.builtin id) r)(hr:vf4 c r o)(hg:Gl X x)(hm:X.mg x=none)(hv:bootBuiltins x=some (.builtin id))(hn:autoParam (x≠"__name__") uD)(hdb:autoParam ((x == ("__debug__" : Str))=false) uD)(he:autoParam (starEach (e::es) X.env=(false,eval e X.env)::starEach es X.env) uR)(hpl:autoParam ((backTo pos (starEach es X.env)).any (·.1)=false) uR):DE X c g (.Call (.Name x p) (e::es) [] pos) (fA S o f):=
 xh4 (id:=id) (zw1 hc hg hm hv ha hn hdb he hpl) rfl hr
def vh7{T:String}{x:Str}{p pos:Pos}{e:Expr}{es:List Expr}{r:List V->Hp->VK->Prop}{o:List D->Option D}{f:FnA S}(ha:DA X c (e::es) f)(hc:vf3 X (.type T) r)(hr:vf4 c r o)(hg:Gl X x)(hm:X.mg x=none)(hv:bootBuiltins x=some (.type T))(hn:autoParam (x≠"__name__") uD)(hdb:autoParam ((x == ("__debug__" : Str))=false) uD)(he:autoParam (starEach (e::es) X.env=(false,eval e X.env)::starEach es X.env) uR)(hpl:autoParam ((backTo pos (starEach es X.env)).any (·.1)=false) uR):DE X c g (.Call (.Name x p) (e::es) [] pos) (fA S o f):=
 xh4 (id:=T) (ys1 hc hg hm hv ha hn hdb he hpl) rfl hr
end
end L2
namespace PySem
namespace F
def lk_list_keys:typeLookup (.type "list") "keys" = pure none:=by rw[typeLookup_type,builtinLookup_eq_fast];kernel_rfl
end F
def xu9(hp:PlainL s.heap a its)(hA:A.handled=none)(h:∀h' tk,(∀b o,s.heap.get? b=some o->h'.get? b=some o)->Q none { s with heap:=h',toks:=tk }) :
 wpAny 'r' A (getAttr? (.ref a) "keys") Q E s:=by
 obtain⟨⟨c,dct,dat,sl⟩,k,hx,hc,hd,hdat⟩:=hp;simp only at hc hdat hd;subst hc hdat hd;obtain⟨hp,g,d,tk,os⟩:=s;have hT:∀tk',(⟨hp,g,d,tk',os⟩:Shared).TypeIs (.ref a) "list":=λ_=>{_,hx,rfl}
 have f1:=sub_AttributeError;have f3:=F.slot_list_getattribute.lookup;have f4:=F.slot_list_getattribute.bind (.ref a);have f5:=am_list_getattr_none;unfold getAttr? getAttrBy? getAttrBy;repeat (any_goals (first | assumption | exact hT _ | ((with_reducible show wpAny _ _ (call (Value.builtin "list.__getattribute__") _ _) _ _ _);refine call_meets F.slot_list_getattribute (hT _) am_entry_list_getattribute (F.args_list_getattribute_2 _ _) (meets_getattribute_miss_list a its k sl "keys" _ F.lk_list_keys (by decide +kernel) (by size_fits)) {hx,hA,λh' tk' e hx'=>?_}) | wp_step))
 obtain⟨t',u',he⟩:=hx'.there;show wpAny _ _ (getattributeRaised _ _ _ _ _ _ _) _ _ _;unfold getattributeRaised;repeat (any_goals (first | assumption | wp_step))
 exact h h' tk' hx'.keeps
end PySem
namespace PySem.F
def plain_upd_loop:plainId "dict.update.loop" = true:=by decide +kernel
def entry_upd_loop:entryFor table "dict.update.loop" = some Builtin.«dict.update.loop»:=entryFor_of_fast (by kernel_rfl)
end PySem.F
namespace L2
instance zq0(H:Hp):List V->List (List vc6×V)->Prop
 | [],ps=>ps=[]
 | v::vs,ps=>∃t b k x r,ps=(k,x)::r/\v=.ref t/\H t=some (.tup [.ref b,x])/\vk4 H b k/\zq0 H vs r
instance ye4(kvs ps:List (List vc6×V)):List (List vc6×V):=ps.foldl (λacc p=>vg8 acc p.1 p.2) kvs
theorem zq0.keep(hd:∀u,H d≠some (.tup u)):∀{vs:List V} {ps:List (List vc6×V)},zq0 H vs ps->zq0 (upd H d o) vs ps
 | [],ps,h=>h
 | v::vs,ps,⟨t,b,k,x,r,e1,e2,h1,h2,h3⟩=>{t,b,k,x,r,e1,e2,by rw[za8 (λz=>hd _ (z▸h1))];exact h1,h2.keeps λb ys q=>by rw[za8 (λz=>hd _ (z▸q))];exact q,zq0.keep hd h3}
open H in
theorem xy6(hc:X.calm=true)(hu:X.A.in1.units+2<cLine):∀(n i:Nat) (s:Shared) (H:Hp) (kvs ps:List (List vc6×V)) (t:Tok),vs.length-i=n->i<=vs.length->Inv X A3 Y H s->vm4 X A3 H it->
 s.heap.IsListIter it a i->H a=some (.lst vs)->H d=some (.dT kvs)->zq0 H (vs.drop i) ps->kvs.length+ps.length<sizeLine->Q (.ref d) (upd H d (.dT (ye4 kvs ps)))->
 codeAny 'e' X.A.in1 (.builtin "dict.update.loop" {[.ref d,.ref it,.int i t,.none],[]}) (wants (λr s₂=>r=.none/\EP X A3 Y Q (.ref d) s₂) X.xe) s:=by
 intro n;induction n with
 | zero=>
   intro i s H kvs ps t hn hi I hfp hit ha hd hp hz q;have e:i=vs.length:=by omega
   subst e;rw[List.drop_length] at hp;have hp:ps=[]:=hp;subst hp;obtain⟨its,rv,pl,_⟩:=I.list (SqL.of ha);obtain⟨f0,f1,f2,f3,f4,f5⟩:=hfp;refine codeAny_builtin F.entry_upd_loop ?_;rw[Around.under_plainId F.plain_upd_loop _];show wpAny _ X.A.in1.in1 (pyNext (.ref it) >>= λ_=>_) _ _ s;have hl:=rv.length;refine Aa1 (wpAny_pyNext_list_end (I.ok.hd hc) hit pl.isList (by simp;omega) λh' eb=>?_);have I1:Inv X A3 Y H { s with heap:=h' }:=I.turned (t':=s.toks) (λb o hb e=>eb b o hb e) f0 f1 f3 f4 f5;show wpAny _ X.A.in1.in1 (Builtin.Dict.addKeywords d [] >>= λ_=>ret .none) _ _ _;refine Aa1 (Ac1 (Ac1 ?_));refine{rfl,.ref d,H,I1,rfl,?_};have e2:upd H d (.dT (ye4 kvs []))=H:=by
    funext b;by_cases hb:b=d
    ·subst hb;rw[zb3,hd];rfl
    ·rw[za8 hb]
   rw[e2] at q;exact q
 | succ n ih=>
   intro i s H kvs ps t hn hi I hfp hit ha hd hp hz q;have hi':i<vs.length:=by omega
   rw[List.drop_eq_getElem_cons hi'] at hp;obtain⟨tt,b,k,x,r,rfl,ev,ht,hb,hr⟩:=hp;obtain⟨its,rv,pl,_⟩:=I.list (SqL.of ha);obtain⟨u,hu',ru⟩:=rv.get (i:=i) (x:=vs[i]) (Ad0 hi');rw[ev] at ru;cases (show u=Value.ref tt from ru);obtain⟨f0,f1,f2,f3,f4,f5⟩:=id hfp;refine codeAny_builtin F.entry_upd_loop ?_;rw[Around.under_plainId F.plain_upd_loop _];show wpAny _ X.A.in1.in1 (pyNext (.ref it) >>= λ_=>_) _ _ s;refine Aa1 (wpAny_pyNext_list_item hit pl.isList (x:=.ref tt) (by simpa using hu') λh' hit' sb=>?_);have I1:Inv X A3 Y H { s with heap:=h' }:=I.turned (t':=s.toks) (λc o hb e=>(sb.2 c hb).trans e) f0 f1 f3 f4 f5;obtain⟨ps2,r2,p2,_⟩:=I1.tuple (SqT.of ht);obtain⟨o2,ho2,hc2,n2,hd2⟩:=id p2;obtain⟨u1,u2,rfl,rk,rx⟩:∃u1 u2,ps2=[u1,u2]/\vc7 (.ref b) u1/\vc7 x u2:=by
    cases r2 with
    | cons p q=>
      cases q with
      | cons p' q'=>cases q';exact{_,_,rfl,p,p'}
   cases (show u1=Value.ref b from rk);refine Aa1 (wpAny_holding (Aa1 (wpAny_tryCatch ?_)));unfold Builtin.Dict.pairItems;refine Aa1 (wpAny_typeOf (T:="tuple") ⟨o2,ho2,hc2⟩ ?_);rw[if_pos 'z'];refine Aa1 (An1 ho2 hd2 (Ac1 ?_));obtain⟨z,hdm,xs,rel,dd⟩:=vw0 I1.hok hd;have hz1:xs.length<=sizeLine:=by rw[<-Paired.length rel];exact z
   have hlr:kvs.length+(r.length+1)<sizeLine:=by simpa using hz
   have hl:(vg8 kvs k x).length<=sizeLine:=by have:=zl6 kvs k x;omega
   show wpAny _ _ (holding [.ref b,u2] (dictSet d (.ref b) u2)) _ _ _;refine wpAny_holding (wpAny_dictSet_heap (hsz:=hz1) (zn5 hu) (key_of I1.hok hb) dd λh2 dd' hs=>Ac1 ?_);have I2:Inv X A3 Y (upd H d (.dT (vg8 kvs k x))) { s with heap:=h2,toks:=s.toks+(zj4 X.prog X.w).draws k }:=by
    obtain⟨q,es,ep,hq,h2',h3,h4,_,h5⟩:=dd';refine yg2 (s:={ s with heap:=h' }) (t':=s.toks+(zj4 X.prog X.w).draws k) I1 (by rw[hd];exact True.intro) hs ⟨q,hq⟩ {hl,hdm,_,(rel.put k hb rx).keeps λc ys ec=>?_,q,es,ep,hq,h2',h3,h4,h5};rw[za8 (vp2 ec hd (λz=>nomatch z))];exact ec
   have nit:it≠d:=λe=>by rw[e,hd] at f0;cases f0
   have nda:a≠d:=vp2 ha hd (λz=>nomatch z);have hs:Heap.SameBut d h' h2:=hs;refine{plainId_quiet F.plain_upd_loop _,ih (i+1) _ _ (vg8 kvs k x) r _ 'o' 'o' I2 {by rw[za8 nit];exact f0,f1,f2,f3,f4,f5} (hit'.extBut hs.extBut nit) (by rw[za8 nda];exact ha) zb3 (hr.keep λu e=>by rw[hd] at e;cases e) ?_ ?_}
   ·have:=zl6 kvs k x;omega
   ·rw[upd_upd];exact q
def yh0(hc:X.calm=true)(hu:X.A.in1.units+2<cLine):vf3 X (.type "dict") (λxs H Q=>∃(a:Addr) (vs:List V) (ps:List (List vc6×V)),xs=[.ref a]/\H a=some (.lst vs)/\zq0 H vs ps/\ps.length<sizeLine/\∀d,H d=none->Q (.ref d) (upd H d (.dT (ye4 [] ps)))):=by
 intro A3 s Y H xs us Q I r h;obtain⟨a,vs,ps,rfl,ha,hp,hz,q⟩:=h;obtain⟨u,rfl,r1⟩:=vh6 r;cases r1;have hhA:X.A.handled=none:=I.ok.hd hc;refine callType_codes (Q₁:=λobj s₁=>obj=.ref s.heap.objs.size/\s₁={ s with heap:=s.heap.push { cls:=.type "dict",data:=.dict #[] } }) F.kt_called_dict (F.kt_typeCall_dict_1 _) F.entry_dict_init (kt_code_dict_new _ ⟨rfl,rfl⟩) ?_;rintro obj s₁ ⟨rfl,rfl⟩;have hn:=I.hok.fresh (Ae0 s.heap.objs.size);have I1:=I.laid (a:=s.heap.objs.size) (o:=.dT []) (h':=s.heap.push { cls:=.type "dict",data:=.dict #[] }) (t':=s.toks) (λ_ _ q=>Ab0 _ q) (Ae0 _) (yo7 s.heap I.big);have hT:({ s with heap:=s.heap.push { cls:=.type "dict",data:=.dict #[] } }:Shared).TypeIs (.ref s.heap.objs.size) "dict":={_,Ag0 _ rfl,rfl};refine{hT,F.args_dict_init_2 _ _,?_};unfold Builtin.«dict.__init__»;refine Aa1 ?_;unfold Builtin.Dict.selfAndRest;refine Aa1 (wpAny_notOrdered_dict hT ?_);show wpAny _ _ (pure (s.heap.objs.size,[Value.ref a])) _ _ _;refine Ac1 ?_;show wpAny _ _ (Builtin.Dict.updateFrom "dict.__init__" s.heap.objs.size (.ref a) [] .none) _ _ _;unfold Builtin.Dict.updateFrom;have nda:a≠s.heap.objs.size:=zb5 ha hn;have ha1:upd H s.heap.objs.size (.dT []) a=some (.lst vs):=by rw[za8 nda];exact ha
 obtain⟨its,rv,pl,_⟩:=I1.list (SqL.of ha1);refine Aa1 (wpAny_typeOf pl.isList.typeIs ?_);rw[if_pos 'z'];refine Aa1 (xu9 pl hhA λh2 tk2 k2=>?_);have I2:Inv X A3 Y (upd H s.heap.objs.size (.dT [])) { s with heap:=h2,toks:=tk2 }:=I1.kept (t':=tk2) k2;obtain⟨its2,rv2,pl2,_⟩:=I2.list (SqL.of ha1);rw[if_pos (by rfl)];refine Aa1 (Aj1 (Aa1 (wpAny_pyIter_list pl2.isList (Ac1 ?_))));have I3:Inv X A3 Y (upd H s.heap.objs.size (.dT [])) { s with heap:=h2.push { cls:=.type "list_iterator",data:=.fields #[.ref a,.int 0 0] },toks:=tk2 }:=I2.kept (t':=tk2) λb o e=>Ab0 _ e
 have fp:vm4 X A3 (upd H s.heap.objs.size (.dT [])) h2.objs.size:=I2.fpOk (Ae0 _) (I2.hok.fresh (Ae0 _));refine{plainId_quiet F.plain_upd_loop _,xy6 hc hu (a:=a) (vs:=vs) vs.length 0 _ _ [] ps _ 'o' 'o' I3 fp {_,Ag0 _ rfl,rfl,rfl} ha1 zb3 ?_ (by simpa using hz) ?_}
 ·rw[List.drop_zero]
  exact hp.keep λu e=>by rw[hn] at e;cases e
 ·rw[L2.upd_upd];exact q _ hn
theorem zz0:∀{us:List Value} {ns:List Int},IntsAre us ns->vc8 (ns.map V.int) us
 | _,_,.nil=>.nil
 | _,_,.cons n t h=>.cons ⟨t,rfl⟩ (zz0 h)
section
variable{X:Cx}{S:Type}{W:Wd S}{c:Dx W}{g ga gb gc:Gr}{a b:Expr}{fa fb fc:Fn S}{pos p2:Pos}
def xa5:vf3 X (.builtin "sorted") (λxs H Q=>∃(a:Addr) (ns:List Int),xs=[.ref a]/\SqL X.K H a (ns.map V.int)/\ns.length<64/\∀p,H p=none->Q (.ref p) (upd H p (.lst ((sortI ns).map V.int)))):=by
 intro A3 s Y H xs us Q I r h;obtain⟨a,ns,rfl,hq,h64,q⟩:=h;obtain⟨u,rfl,r1⟩:=vh6 r;cases r1;obtain⟨its,rv,p,hz⟩:=I.list hq;have hl:=rv.length;rw[Aa0] at hl;refine sorted_ints p.isList (xl7 rv) 'o' λout ns' h1 h2 h3=>?_
 have e:=eq_sortI h2 h3;subst e;obtain⟨e,he⟩:=sortedAll_at s.heap its out;have hlen:(sortI ns).length=ns.length:=h2.length_eq;refine{.ref (s.heap.objs.size+1),_,I.laid (t':=s.toks) (a:=s.heap.objs.size+1) (o:=.lst ((sortI ns).map V.int)) (λb o e=>sortedAll_old e) (Nat.le_succ _) ?_,rfl,q _ (I.hok.fresh (Nat.le_succ _))};refine{by rw[Aa0,hlen];exact Cq0 (zq5 'o'),out.toList,e,zz0 h1,he}
instance yy5:List D->Option D
 | [.lst l]=>(zu1 l).bind λns=>if ns.length<64 then some (.lst ((sortI ns).map D.int)) else none
 | _=>none
theorem xf5{K:PySem.W.Frag}{A:Addr->Prop}{H:Hp}:∀ns:List Int,IsL K A H (ns.map D.int) (ns.map V.int)
 | []=>IsL.nil.mpr rfl
 | n::ns=>IsL.cons.mpr {_,_,rfl,Is.int_iff.mpr rfl,xf5 ns}
theorem yu8:∀ns:List Int,D.immL (ns.map D.int)=true
 | []=>rfl
 | n::ns=>by simp[D.immL,D.imm,yu8 ns]
open H in
def xz5{K:PySem.W.Frag}(hK:c.K=K):vf4 c (λxs H Q=>∃(a:Addr) (ns:List Int),xs=[.ref a]/\SqL K H a (ns.map V.int)/\ns.length<64/\∀p,H p=none->Q (.ref p) (upd H p (.lst ((sortI ns).map V.int)))) yy5:=by
 subst hK;intro l vs H st d Q ok z e q;unfold yy5 at e;split at e
 ·rename_i m
  cases qq:zu1 m with
  | none=>rw[qq] at e;cases e
  | some ns=>
    rw[qq] at e;have e:(if ns.length<64 then some (D.lst ((sortI ns).map D.int)) else none)=some d:=e;split at e
    ·rename_i h64
     cases e;obtain⟨v,r,e1,i1,i2⟩:=IsL.cons.mp z;obtain⟨a,us,ea,_,s1,i3⟩:=Is.lst_iff.mp i1;rw[IsL.nil.mp i2,ea] at e1;rw[yu4 qq i3] at s1;exact{a,ns,e1,.of s1,h64,λp hp=>q _ _ (Ext.laid hp) (zd9 ok hp) (New.lst ok hp (λ_ n=>n) (yu8 _) (xf5 _))}
    ·cases e
 ·cases e
instance zt7:List D->Option (List (List vc6×D))
 | []=>some []
 | .tup [k,v]::l=>if v.imm=true then (zc0 k).bind λkk=>(zt7 l).map λr=>(kk,v)::r else none
 | _=>none
instance zi3(ps:List (List vc6×D))(acc:List D×List D):List D×List D:=ps.foldl (λacc p=>ve4 p.1 p.2 acc.1 acc.2) acc
instance vu7:List D->Option D
 | [.lst l]=>if l.length<sizeLine then (zt7 l).map λps=>.dct (.non::(zi3 ps ([],[])).1) (zi3 ps ([],[])).2 else none
 | _=>none
open H in
theorem ys4{K:PySem.W.Frag}{A:Addr->Prop}{H:Hp}:∀{l:List D} {vs:List V} {ps:List (List vc6×D)},zt7 l=some ps->IsL K A H l vs->
 ∃qs:List (List vc6×V),zq0 H vs qs/\qs.map (·.1)=ps.map (·.1)/\IsL K A H (ps.map (·.2)) (qs.map (·.2))/\D.immL (ps.map (·.2))=true/\qs.length=l.length
 | [],vs,ps,e,h=>by
   cases e;rw[IsL.nil.mp h];exact{[],rfl,rfl,IsL.nil.mpr rfl,rfl,rfl}
 | d::l,vs,ps,e,h=>by
   unfold zt7 at e;split at e
   ·rename_i heq
    cases heq
   ·rename_i k v l' heq
    cases heq;split at e
    ·rename_i hv
     cases q1:zc0 k with
     | none=>rw[q1] at e;cases e
     | some kk=>
       cases q2:zt7 l with
       | none=>rw[q1,q2] at e;cases e
       | some r=>
         rw[q1,q2] at e;cases e;obtain⟨w,rr,e1,i1,i2⟩:=IsL.cons.mp h;obtain⟨t,us,et,ht,i3⟩:=Is.tup_iff.mp i1;obtain⟨w1,r1,e2,j1,j2⟩:=IsL.cons.mp i3;obtain⟨w2,r2,e3,j3,j4⟩:=IsL.cons.mp j2;obtain⟨b,eb,hb,_⟩:=zr8 q1 j1;obtain⟨qs,g1,g2,g3,g4,g5⟩:=ys4 q2 i2;refine{(kk,w2)::qs,?_,by simp[g2],IsL.cons.mpr {_,_,rfl,j3,g3},by simp[D.immL,hv,g4],by simp[g5]};rw[e1];refine{t,b,kk,w2,qs,rfl,et,?_,hb,g1};rw[ht,e2,e3,eb,IsL.nil.mp j4]
    ·cases e
   ·cases e
theorem yr9{K:PySem.W.Frag}{A:Addr->Prop}{H:Hp}:∀{ps:List (List vc6×D)} {qs:List (List vc6×V)},qs.map (·.1)=ps.map (·.1)->IsL K A H (ps.map (·.2)) (qs.map (·.2))->D.immL (ps.map (·.2))=true->
 ∀{kk:List (List vc6)} {vs:List D} {us:List V},kk.length=us.length->IsL K A H vs us->D.immL vs=true->
 ∃(kk':List (List vc6)) (us':List V),(zi3 ps (kk.map vc4,vs)).1=kk'.map vc4/\IsL K A H (zi3 ps (kk.map vc4,vs)).2 us'/\kk'.length=us'.length/\ye4 (kk.zip us) qs=kk'.zip us'/\D.immL (zi3 ps (kk.map vc4,vs)).2=true
 | [],qs,e,h,m,kk,vs,us,hl,hv,mv=>by
   have:qs=[]:=by simpa using e
   subst this;exact⟨kk,us,rfl,hv,hl,rfl,mv⟩
 | (k,d)::ps,qs,e,h,m,kk,vs,us,hl,hv,mv=>by
   cases qs with
   | nil=>cases e
   | cons q qs=>
     obtain⟨k',v⟩:=q;obtain⟨w,r,e1,i1,i2⟩:=IsL.cons.mp h;have e1:v::qs.map (·.2)=w::r:=e1;cases e1;have ek:k'=k/\qs.map (·.1)=ps.map (·.1):=by simpa using e
     obtain⟨rfl,ek⟩:=ek;have m':d.imm=true/\D.immL (ps.map (·.2))=true:=by simpa [D.immL] using m
     obtain⟨kk1,us1,g1,g2,g3,g4⟩:=xa2 (k:=k') i1 hl hv;have g5:=zx2 (k:=k') (ks:=kk.map vc4) m'.1 mv;obtain⟨kk2,us2,f1,f2,f3,f4,f5⟩:=yr9 ek i2 m'.2 (kk:=kk1) (vs:=(ve4 k' d (kk.map vc4) vs).2) g3 g2 g5;have eq:zi3 ((k',d)::ps) (kk.map vc4,vs)=zi3 ps (kk1.map vc4,(ve4 k' d (kk.map vc4) vs).2):=by
      show zi3 ps (ve4 k' d (kk.map vc4) vs)=_;rw[<-g1]
     rw[eq];refine{kk2,us2,f1,f2,f3,?_,f5};show ye4 (vg8 (kk.zip us) k' v) qs=_;rw[g4];exact f4
open H in
def ws4:vf4 c (λxs H Q=>∃(a:Addr) (vs:List V) (ps:List (List vc6×V)),xs=[.ref a]/\H a=some (.lst vs)/\zq0 H vs ps/\ps.length<sizeLine/\∀d,H d=none->Q (.ref d) (upd H d (.dT (ye4 [] ps)))) vu7:=by
 intro l vs H st d Q ok z e q;unfold vu7 at e;split at e
 ·rename_i m
  split at e
  ·rename_i hz
   cases q1:zt7 m with
   | none=>rw[q1] at e;cases e
   | some ps=>
     rw[q1] at e;cases e;obtain⟨v,r,e1,i1,i2⟩:=IsL.cons.mp z;obtain⟨a,us,ea,_,s1,i3⟩:=Is.lst_iff.mp i1;rw[IsL.nil.mp i2,ea] at e1;obtain⟨qs,g1,g2,g3,g4,g5⟩:=ys4 q1 i3;refine{a,us,qs,e1,s1,g1,by rw[g5];exact hz,λp hp=>?_};obtain⟨kk,us',f1,f2,f3,f4,f5⟩:=yr9 g2 g3 g4 (kk:=[]) (vs:=[]) (us:=[]) rfl (IsL.nil.mpr rfl) rfl;have f1:(zi3 ps ([],[])).1=kk.map vc4:=f1;have f2:IsL c.K (λb=>¬W.mv b) H (zi3 ps ([],[])).2 us':=f2;have f4:ye4 [] qs=kk.zip us':=f4;refine q _ _ (Ext.laid hp) (zd9 ok hp) (Is.dct_iff.mpr {p,us',rfl,{zl4 ok hp,hp},IsL.ofImm f5 (f2.ext (Ext.laid hp) ok λ_ n=>n),.inr {kk,by rw[f1],f3,?_}});rw[zb3,f4]
  ·cases e
 ·cases e
instance ud0(i j k:Nat)(ta:TA):TS:=λD Y H=>ta Y H λvs H1=>∃u v w,vs=[u,v,w]/\D.nx (((Y.set i (some u)).set j (some v)).set k (some w)) H1
def wn9{i j k:Nat}{x y z:Str}{kt k2 pt2}(hc:X.calm=true)(hN:X.N.Nodup)(hi:X.N[i]?=some x)(hj:X.N[j]?=some y)(hk:X.N[k]?=some z)(hij:i≠j)(hik:i≠k)(hjk:j≠k)(hx:X.env.scope.names.lookup x=some .local)(hy:X.env.scope.names.lookup y=some .local)(hz:X.env.scope.names.lookup z=some .local)(ha:PA X [a,b,d] ta)(hw:swappedStores [.Tuple [.Name x px,.Name y py,.Name z pz] kt pt] (.Tuple [a,b,d] k2 pt2) X.env=pure (some [x,y,z]))(hs:autoParam (swapsWithSole [.Tuple [.Name x px,.Name y py,.Name z pz] kt pt] (.Tuple [a,b,d] k2 pt2) pos.line X.env=pure false) uR) :
 PS X (.Assign [.Tuple [.Name x px,.Name y py,.Name z pz] kt pt] (.Tuple [a,b,d] k2 pt2) pos) (ud0 i j k ta):=by
 intro A3 s Y H D I h;rw[exec_Assign_arm];refine Aa1 (wpAny_standAt ?_);rw[hs];refine Aa1 (Ac1 ?_);rw[if_neg 'z'];refine Aa1 (Tuple_ (thn (ha _ A3 s Y H _ I h) λus s1 hI116=>?_));obtain⟨vs,H1,I1,r1,q1⟩:=hI116;obtain⟨u,v,w,e1,q1⟩:=q1;subst e1;obtain⟨u1,u2,u3,rfl,ru,rv,rw'⟩:∃u1 u2 u3,us=[u1,u2,u3]/\vc7 u u1/\vc7 v u2/\vc7 w u3:=by
  cases r1 with
  | cons p q=>
    cases q with
    | cons p' q'=>
      cases q' with
      | cons p'' q''=>cases q'';exact{_,_,_,rfl,p,p',p''}
 refine wpAny_newObj_type ?_ (by show 3<=sizeLine;decide);have I2:Inv X A3 Y H1 { s1 with heap:=s1.heap.push { cls:=.type "tuple",data:=.seq [u1,u2,u3].toArray } }:=I1.kept (t':=s1.toks) λb o e=>Ab0 _ e
 rw[hw];refine Aa1 (Ac1 ?_);show wpAny 'e' X.A (do rule "assign.swapped-stores";let items <-unpackItems (.ref s1.heap.objs.size) 3 none;assignInOrder [λv=>bindName X.env z v,λv=>bindName X.env y v,λv=>bindName X.env x v] items.reverse;pure Flow.next) _ _ _;refine Aa1 (Aj1 (Aa1 (unpackItems_tuple (items:=#[u1,u2,u3]) (I.ok.hd hc) (IsTup.new s1.heap _) λh' hx'=>?_)));have I3:=I2.kept (h':=h') (t':=s1.toks) λb o e=>hx' b o (As0 (Heap.lt_size e)) e
 show wpAny _ _ (assignInOrder [λv=>bindName X.env z v,λv=>bindName X.env y v,λv=>bindName X.env x v] [u3,u2,u1] >>= λ_=>pure Flow.next) _ _ _;refine Aa1 (assignInOrder_cons (wpAny_bindName (zm1 I3 hN hk (.inl hz) rw' (λs2 I4=>?_) (.inr hz))));refine assignInOrder_cons (wpAny_bindName (zm1 I4 hN hj (.inl hy) rv (λs3 I5=>?_) (.inr hy)));refine assignInOrder_cons (wpAny_bindName (zm1 I5 hN hi (.inl hx) ru (λs4 I6=>assignInOrder_nil (Ac1 ?_)) (.inr hx)));refine{_,H1,?_,q1};have e:((Y.set k (some w)).set j (some v)).set i (some u)=((Y.set i (some u)).set j (some v)).set k (some w):=by
  have e1:(Y.set k (some w)).set j (some v)=(Y.set j (some v)).set k (some w):=List.set_comm _ _ (Ne.symm hjk);have e2:∀τ:St,(τ.set k (some w)).set i (some u)=(τ.set i (some u)).set k (some w):=λτ=>List.set_comm _ _ (Ne.symm hik)
  have e3:(Y.set j (some v)).set i (some u)=(Y.set i (some u)).set j (some v):=List.set_comm _ _ (Ne.symm hij);rw[e1,e2,e3]
 rw[e] at I6;exact I6
instance vy4(S:Type)(i j k:Nat)(f:FnA S):FnS S:=λZ st=>(f Z st).bind λl st1=>match l with
 | [d,e,h]=>(vd2 (put Z i d) st1).bind λZ1 st2=>(vd2 (put Z1 j e) st2).bind λZ2 st3=>(vd2 (put Z2 k h) st3).bind λZ3 st4=>.ok (.nx Z3) st4
 | _=>.bad
open H in
def xa0{i j k:Nat}{x y z:Str}{kt k2 pt2}(hc:X.calm=true)(hN:X.N.Nodup)(hi:X.N[i]?=some x)(hj:X.N[j]?=some y)(hk:X.N[k]?=some z)(hij:i≠j)(hik:i≠k)(hjk:j≠k)(hx:X.env.scope.names.lookup x=some .local)(hy:X.env.scope.names.lookup y=some .local)(hz:X.env.scope.names.lookup z=some .local)(ha:DB X c [a,b,d] f)(hw:swappedStores [.Tuple [.Name x px,.Name y py,.Name z pz] kt pt] (.Tuple [a,b,d] k2 pt2) X.env=pure (some [x,y,z]))(hs:autoParam (swapsWithSole [.Tuple [.Name x px,.Name y py,.Name z pz] kt pt] (.Tuple [a,b,d] k2 pt2) pos.line X.env=pure false) uR) :
 DS X c (.Assign [.Tuple [.Name x px,.Name y py,.Name z pz] kt pt] (.Tuple [a,b,d] k2 pt2) pos) (vy4 S i j k f):=
 (wn9 hc hN hi hj hk hij hik hjk hx hy hz ha hw hs).imp λD Y H hI40=>by
  obtain⟨Z,st,R,ok,w⟩:=hI40;refine{Z,st,R,ok,za6 (za2.mp w) (λl st1 q vs H1 e ok1 zz=>?_) λx st1 q H' e ok'=>q H' (e.f0 R) ok'};split at q
  ·rename_i d1 d2 d3
   obtain⟨v,r,e2,i2,i3⟩:=IsL.cons.mp zz;obtain⟨v',r',e3,i3,i4⟩:=IsL.cons.mp i3;obtain⟨v'',r'',e4,i4,i5⟩:=IsL.cons.mp i4;rw[e3,e4,IsL.nil.mp i5] at e2;obtain⟨Z1,p1,q⟩:=za9.mp (za2.mp q);obtain⟨Z2,p2,q⟩:=za9.mp (za2.mp q);obtain⟨Z3,p3,q⟩:=za9.mp (za2.mp q);obtain⟨h1,rfl⟩:=zm3 p1;obtain⟨h2,rfl⟩:=zm3 p2;obtain⟨h3,rfl⟩:=zm3 p3;have R1:=(R.ext ok e).setB h1 i2;have k1:vd1 (Av c Y Z) (Av c (Y.set i (some v)) (Z.set i (.bor d1))) H1 H1:=Frm.keepT (R.ext ok e) ok1 ze8;have R2:=R1.setB h2 (i3.mono k1);have k2:vd1 (Av c (Y.set i (some v)) (Z.set i (.bor d1))) (Av c ((Y.set i (some v)).set j (some v')) ((Z.set i (.bor d1)).set j (.bor d2))) H1 H1:=Frm.keepT R1 ok1 ze8;have R3:=R2.setB h3 ((i4.mono k1).mono k2);exact{v,v',v'',e2,q _ _ ((Ext.frm e).trans (ze8.trans (ze8.trans ze8))) ok1 R3}
  ·exact q.elim
instance vs8{S:Type}{W:Wd S}(c:Dx W):List Str->List (Fn S)->List (TE×TE)
 | k::ks,f::fs=>(tC (.str k),tD c .R f)::vs8 c ks fs
 | _,_=>[]
instance ua5(S:Type):List (Fn S)->FnA S
 | []=>vx2 S
 | f::fs=>vf8 S f (ua5 S fs)
theorem yr0:∀(ks:List Str) (fs:List (Fn S)) {Y:St} {H:Hp} {Z:Rho} {st:S} {Q:List (V×V)->Hp->Prop},ks.length=fs.length->Rep c H Y Z->W.ok st H->
 wpR (ua5 S fs Z st) (λl st'=>∀vs H',Ext W H H'->W.ok st' H'->IsL c.K (λb=>¬W.mv b) H' l vs->Q ((ks.zip vs).map λkv=>(V.str kv.1,kv.2)) H') (λx st'=>∀H',Ext W H H'->W.ok st' H'->c.Ex x st' H')->yr1 (vs8 c ks fs) Y H Q
 | [],[],Y,H,Z,st,Q,_,R,ok,w=>w [] H Ext.refl ok (IsL.nil.mpr rfl)
 | k::ks,f::fs,Y,H,Z,st,Q,hl,R,ok,w=>by
   refine{Z,st,R,ok,za6 (za2.mp w) (λd st1 q v H1 e ok1 z=>?_) λx st1 q=>q};refine yr0 ks fs (by simpa using hl) (R.ext ok e) ok1 (za6 (za2.mp q) (λl st2 q vs H2 e2 ok2 z2=>?_) λx st2 q H2 e2 ok2=>q H2 (e.trans e2) ok2);exact q (v::vs) H2 (e.trans e2) ok2 (IsL.cons.mpr {v,vs,rfl,z.toR.ext e2 ok1,z2})
 | [],_::_,_,_,_,_,_,hl,_,_,_=>by cases hl
 | _::_,[],_,_,_,_,_,hl,_,_,_=>by cases hl
instance vm9(x:Str):List Str->List D->Option D
 | k::ks,v::vs=>if k=x then some v else vm9 x ks vs
 | _,_=>none
theorem zz6:∀(kvs acc:List (Key×V)),(acc.map (·.1)++kvs.map (·.1)).Nodup->zw8 acc kvs=acc++kvs
 | [],acc,_=>by show acc=acc++[];simp
 | (k,v)::kvs,acc,h=>by
   have hk:∀p∈acc,p.1≠k:=λp hp e=>by
    have:=(Ci0.mp h).2.2 p.1 (List.mem_map_of_mem hp) k 'd';exact this e
   have e:vg8 acc k v=acc++[(k,v)]:=by
    unfold vg8;rw[if_neg];intro z;obtain⟨p,hp,hq⟩:=List.any_eq_true.mp z;exact hk p hp (by simpa using hq)
   show zw8 (vg8 acc k v) kvs=_;rw[e,zz6 kvs (acc++[(k,v)]) (by simpa using h)];simp
instance DKV(X:Cx){S:Type}{W:Wd S}(c:Dx W)(pos:Pos)(keys:List (Option Expr))(values:List Expr)(ks:List Str)(fs:List (Fn S)):Prop:=PPs X pos keys values (vs8 c ks fs)/\ks.length=fs.length
def wr6:DKV X c pos [] [] [] ([]:List (Fn S)):=⟨yy2,rfl⟩
def yc1{k:Str}{j}(hv:DE X c .R v f)(h:DKV X c pos keys values ks fs):DKV X c pos (some (.Constant (.str k) j p)::keys) (v::values) (k::ks) (f::fs):=
 {yb4 zw0 hv h.1,by simp[h.2]}
instance vz9(S:Type)(ks:List Str)(fs:List (Fn S))(fk:Fn S):Fn S:=λZ st=>(ua5 S fs Z st).bind λl st1=>(fk Z st1).bind λd st2=>match d with
 | .str x=>if D.immL l=true then vd2 (vm9 x ks l) st2 else .bad
 | _=>.bad
theorem xd4{K:PySem.W.Frag}{A:Addr->Prop}{H:Hp}{x:Str}:∀{ks:List Str} {l:List D} {vs:List V} {d:D},vm9 x ks l=some d->IsL K A H l vs->D.immL l=true->∃v,vj5 ((ks.zip vs).map λkv=>((Sum.inr kv.1:Key),kv.2)) (Sum.inr x:Key)=some v/\Is K A H d v/\d.imm=true
 | [],l,vs,d,e,_,_=>by cases l<;>cases e
 | k::ks,[],vs,d,e,_,_=>by cases e
 | k::ks,y::l,vs,d,e,h,m=>by
   obtain⟨v,r,e1,i1,i2⟩:=IsL.cons.mp h;subst e1;have m':y.imm=true/\D.immL l=true:=by simpa [D.immL] using m
   unfold vm9 at e;by_cases hk:k=x
   ·rw[if_pos hk] at e;cases e
    subst hk;exact{v,zo5 rfl,i1,m'.1}
   ·rw[if_neg hk] at e
    obtain⟨v',g1,g2,g3⟩:=xd4 e i2 m'.2;refine{v',?_,g2,g3};show vj5 (((Sum.inr k:Key),v)::(ks.zip r).map λkv=>((Sum.inr kv.1:Key),kv.2)) (Sum.inr x:Key)=_;rw[zo6 (λz=>hk (Sum.inr.inj z))];exact g1
theorem yq0:∀{ks:List Str} {vs:List V},ks.Nodup->((ks.zip vs).map ((λx=>x.1) ∘ λkv=>((Sum.inr kv.1:Key),kv.2))).Nodup
 | [],_,_=>by simp
 | k::ks,[],_=>by simp
 | k::ks,v::vs,h=>by
   obtain⟨h1,h2⟩:=Ch0.mp h;show ((Sum.inr k:Key)::(ks.zip vs).map ((λx=>x.1) ∘ λkv=>((Sum.inr kv.1:Key),kv.2))).Nodup;refine Ch0.mpr {λhm=>?_,yq0 h2};obtain⟨⟨a,b⟩,hab,e⟩:=Bb0.mp hm;have e:a=k:=Sum.inr.inj e;subst e;exact h1 (List.of_mem_zip hab).1
open H in
def wr9(hu:X.A.units+2<cLine)(h:DKV X c dpos keys values ks fs)(hall:keys.all (·.isSome)=true)(hl:keys.length=values.length)(h0:keys≠[])(h15:keys.length<=15)(hks:ks.length<=15)(hnd:ks.Nodup)(hk:DE X c ga k fk)(hs:uc1 k):DE X c g (.Subscript (.Dict keys values dpos) k pos) (vz9 S ks fs fk):=
 (zy2 hu (xr2 h.1 hall hl h0 h15) hk hs).imp λY H Q hI41=>by
  obtain⟨Z,st,R,ok,w⟩:=hI41;intro p hp;have np:¬W.mv p:=zl4 ok hp;refine yr0 ks fs h.2 (R.ext ok (Ext.laid hp)) (zd9 ok hp) (za6 (za2.mp w) (λl st1 q vs H2 e2 ok2 z2=>?_) λx st1 q H2 e2 ok2=>q H2 ((Ext.laid hp).trans e2) ok2);have hp2:H2 p=some (.dK []):=e2 p _ zb3 np;refine{hp2,(ks.zip vs).map λkv=>((Sum.inr kv.1:Key),kv.2),by rw[Bq0];rfl,by rw[Aa0,List.length_zip];omega,?_};have mk:zw8 [] ((ks.zip vs).map λkv=>((Sum.inr kv.1:Key),kv.2))=(ks.zip vs).map λkv=>((Sum.inr kv.1:Key),kv.2):=by
   rw[zz6 _ []]
   ·rfl
   ·show (((ks.zip vs).map λkv=>((Sum.inr kv.1:Key),kv.2)).map (·.1)).Nodup
    rw[Bq0];exact yq0 hnd
  rw[mk];have ex:Ext W H (upd H2 p (.dK ((ks.zip vs).map λkv=>((Sum.inr kv.1:Key),kv.2)))):=λb o hb nm=>by
   have b1:b≠p:=zb5 hb hp;rw[za8 b1];exact e2 b o (by rw[za8 b1];exact hb) nm
  have ok3:=yd8 (o:=.dK ((ks.zip vs).map λkv=>((Sum.inr kv.1:Key),kv.2))) ok2 np hp2;have R3:=R.ext ok ex;refine{Z,st1,R3,ok3,za6 (za2.mp q) (λd st2 q v H4 e4 ok4 z4=>?_) λx st2 q H4 e4 ok4=>q H4 (ex.trans e4) ok4};split at q
  ·rename_i x
   split at q
   ·rename_i im
    obtain⟨dd,e5,q⟩:=za9.mp q;have k1:vd1 (λ_=>False) (λb=>¬W.mv b/\H b=Option.none) H2 H4:={λb u e sy=>by
     have b1:b≠p:=λz=>by
      subst z;rw[hp2] at e;cases e;rcases sy with⟨_,y⟩ | ⟨_,_,y⟩<;>cases y
     refine e4 b _ (by rw[za8 b1];exact e) λm=>?_
     obtain⟨o',h',n1,n2⟩:=W.live st1 H2 b ok2 m;rw[e] at h';cases h';rcases sy with⟨y,z⟩ | ⟨y1,y2,z⟩
     ·exact n1 y z
     ·exact n2 y1 y2 z,λb o f=>f.elim}
    have z3:IsL c.K (λ_=>False) H2 l vs:=IsL.ofImm im z2;obtain⟨v',g1,g2,g3⟩:=xd4 e5 (z3.mono k1) im;have zx:Is c.K (λb=>¬W.mv b) H4 (.str x) v:=z4.toR;refine{p,v',rfl,?_,q v' H4 (ex.trans e4) ok4 ((New.val (R3.ext ok3 e4) (show New c H4 H4 dd v' from Is.ofImm g3 g2) g).back (ex.trans e4) ok4)};rw[Is.str_iff.mp zx,<-g1];exact vi2.k (k:=(Sum.inr x:Key)) (e4 p _ zb3 np)
   ·exact q.elim
  ·exact q.elim
def wz0{A:Around}{k:Nat}(hr:vd5 k A):A.in1.units+2<cLine:=by
 have:=hr.units;show A.units+1+2<cLine;omega
def xy2(hu:X.A.units+2<cLine)(ha:DE X c ga a fa)(hb:DE X c gb b fb)(hm:autoParam (behindInMarks .NotIn b=false) uR):DT X c (.Compare a [.NotIn] [b] pos) (fB S (f2 S (vl1 true) fa fb)):=
 (xq0 (ys2 hu ha hb) hm).imp λY H Q q=>by
  have q':tB (tD c .R (f2 S (vl1 true) fa fb)) Y H Q:=yr2 q;exact xn7 (ga:=ga) (gb:=gb) q'
end
noncomputable abbrev Dr:=List Int×Int
instance stD(l:Addr)(t:Int):List (Key×V):=[(Sum.inr "cells",.ref l),(Sum.inr "turn",.int t)]
instance WdS(p l:Addr):Wd Dr where
 ok:=λst H=>H p=some (.dK (stD l st.2))/\H l=some (.lst (st.1.map V.int))/\st.1≠[]/\st.1.length<=63/\0<=st.2
 mv:=λb=>b=p\/b=l
 h:=.ref p
 stay:=λst H H' ⟨a,b,c⟩ k _=>{k p _ (.inl rfl) a,k l _ (.inr rfl) b,c}
 live:=λst H b hI42 m=>by
  obtain⟨a,c,_⟩:=hI42;rcases m with m | m
  ·subst m;exact{_,a,(λu z=>by cases z),λob u z=>by cases z}
  ·subst m;exact{_,c,(λu z=>by cases z),λob u z=>by cases z}
instance vw8(cell turn:Int):Int:=(cell % 2147483629+turn*turn*7919+11)*48271 % 2147483647
instance uj9(cell turn:Int):Int:=vw8 cell turn*vw8 cell turn % 2147483587
instance uj8(cell turn:Int):Int:=(uj9 cell turn+turn*104729)*39373 % 2147483629 / 64
instance plc(st:Dr):Nat:=((st.2+1) % (st.1.length:Int)).toNat
instance vg3(l:List D)(st:Dr):Res Dr D:=match l with
 | [.int many]=>if 0<many/\many<1073741824/\st.2<2 ^ 40 then
  (if 1000000000000000000<=st.1.getD (plc st) 0 then .ok (.int (st.1.getD (plc st) 0 % many)) (st.1.set (plc st) (st.1.getD (plc st) 0 / many),st.2+1)
   else .ok (.int (uj8 (st.1.getD (plc st) 0) (st.2+1) % many)) (st.1,st.2+1)) else .bad
 | _=>.bad
def vt0:¬((Sum.inr ("cells" : Str)):Key)=Sum.inr ("turn" : Str):=by decide +kernel
def wc3{t:Int}:vj5 (stD l t) (Sum.inr "cells" : Key)=some (.ref l):=by
 unfold stD;exact zo5 rfl
def xn9{t:Int}:vj5 (stD l t) (Sum.inr "turn" : Key)=some (.int t):=by
 unfold stD;rw[zo6 (λz=>vt0 z)];exact zo5 rfl
def wu5{t u:Int}:vg8 (stD l t) (Sum.inr "turn" : Key) (.int u)=stD l u:=by
 unfold vg8;rw[zv3,xn9];refine(if_pos (show (some (V.int t)).isSome=true from rfl)).trans ?_;unfold stD;simp only[Au0,List.map_nil];rw[if_neg (λz=>vt0 z)];simp
structure Bn(mg:Str->Option Value):Prop where
 len:mg "len" = none
 divmod:mg "divmod" = none
 list:mg "list" = none
 tuple:mg "tuple" = none
 int:mg "int" = none
 bool:mg "bool" = none
 str:mg "str" = none
 dict:mg "dict" = none
 isinstance:mg "isinstance" = none
 all:mg "all" = none
 any:mg "any" = none
 sum:mg "sum" = none
 zip:mg "zip" = none
 enumerate:mg "enumerate" = none
 range:mg "range" = none
 sorted:mg "sorted" = none
 min:mg "min" = none
 max:mg "max" = none
 abs:mg "abs" = none
 reversed:mg "reversed" = none
 set:mg "set" = none
instance zp8(ns:List Int):List Int:=if ns=[] then [7] else ns
instance yx2(K:PySem.W.Frag):Sp:=λvs H Q _=>∃(a:Addr) (ns:List Int),vs=[.ref a]/\SqL K H a (ns.map V.int)/\ns.length<=63/\
 ∀(p l:Addr) (H':Hp),vk5 H H'->H p=none->H l=none->H' p=some (.dK (stD l 0))->H' l=some (.lst ((zp8 ns).map V.int))->Q (.ref p) H'
def ui0{ns:List Int}(h:ns.length<=63):vp9 (ns.map V.int) none (some 63)=ns.map V.int:=by
 unfold vp9;have e:HT.sIx (ns.map V.int).length (ns.map V.int).length (some 63)=(ns.map V.int).length:=by
  have:HT.sIx (ns.map V.int).length (ns.map V.int).length (some ((63:Nat):Int))=min 63 (ns.map V.int).length:=HT.sIx_nat _ _ _;rw[show ((63:Nat):Int)=(63:Int) from rfl] at this;rw[this,Aa0];omega
 rw[e];show ((ns.map V.int).drop 0).take ((ns.map V.int).length-0)=_;rw[List.drop_zero,Nat.sub_zero,Bd0]
theorem xw4{K:PySem.W.Frag}{A:Addr->Prop}{H:Hp}:∀ns:List Int,IsL K A H (ns.map D.int) (ns.map V.int)
 | []=>IsL.nil.mpr rfl
 | n::ns=>IsL.cons.mpr {_,_,rfl,Is.int_iff.mpr rfl,xw4 ns}
theorem yv6:∀ns:List Int,D.depL (ns.map D.int)<=1
 | []=>by simp[D.depL]
 | n::ns=>by
   have:=yv6 ns;simp only[Au0,D.depL,D.dep];omega
def we8(ns:List Int):D.dep (.lst (ns.map D.int))<=30:=by
 have:=yv6 ns;simp only[D.dep];omega
def wx4:zw8 [] [((Sum.inr "cells" : Key),.ref l),((Sum.inr "turn" : Key),.int 0)]=stD l 0:=by
 show vg8 (vg8 [] (Sum.inr "cells" : Key) (.ref l)) (Sum.inr "turn" : Key) (.int 0)=_;have e1:vg8 [] (Sum.inr "cells" : Key) (.ref l)=[((Sum.inr "cells" : Key),.ref l)]:=rfl;rw[e1];unfold vg8;rw[zv3,zo6 (λz=>vt0 z)];rfl
instance spLaw(K:PySem.W.Frag):Sp:=λvs H Q _=>∃(a:Addr) (ns:List Int),vs=[.ref a]/\SqL K H a (ns.map V.int)/\ns.length<=63/\∀H',Q (.bl true) H'
instance rhoL(n:Nat):Rho:=.no::.hnd::List.replicate (n-2) .no
instance exL{X:Cx}(K:PySem.W.Frag)(F:FnS Dr):TS:=λD Y H=>∃p l,tS (cxS (WdS p l) K (λ_=>none)) F D Y H
def wn7{X:Cx}{K:PySem.W.Frag}{ss:List Stmt}{F:FnS Dr}(h:∀p l,DSs X (cxS (WdS p l) K (λ_=>none)) ss F):PSs X ss (exL (X:=X) K F):=λA3 s Y H D I ⟨p,l,q⟩=>h p l A3 s Y H D I q
def ue3{K:PySem.W.Frag}{H:Hp}{p l a:Addr}{m:Nat}:Rep (cxS (WdS p l) K (λ_=>none)) H (some (.ref a)::some (.ref p)::List.replicate m none) (rhoL (m+2)) where
 len:=by simp[rhoL]
 frame:=λb o e=>by cases e
 slot:=λi s h=>by
  unfold rhoL at h
  match i with
  | 0=>cases h;trivial
  | 1=>cases h;rfl
  | i+2=>
    have h:(List.replicate (m+2-2) Sl.no)[i]?=some s:=by simpa using h
    rw[Cw0] at h;split at h
    ·cases h;trivial
    ·cases h
 avl:=λb h=>h.elim
 uniq:=λi j b d e h1 h2 _ _=>by
  unfold rhoL at h1
  match i with
  | 0=>cases h1
  | 1=>cases h1
  | i+2=>
    have h1:(List.replicate (m+2-2) Sl.no)[i]?=some (.own d):=by simpa using h1
    rw[Cw0] at h1;split at h1
    ·cases h1
    ·cases h1
section
variable{S α β:Type}{E:Exn->S->Prop}{st:S}
open H in
def wpB(h:∀d st1,wpR (k d st1) Q E↔P d st1):wpR (r.bind k) Q E↔wpR r P E:=by
 rw[za2];exact iff_of_eq (congrArg (λz=>wpR r z E) (funext λd=>funext λst1=>propext (h d st1)))
def yf5{P:α->Prop}{a:α}{R:Prop}(k:R↔P a):R↔∃b,some a=some b/\P b:={λq=>{a,rfl,k.mp q},λh=>by obtain⟨_,e,q⟩:=h;cases e;exact k.mpr q}
def yf6{P:α->Prop}:False↔∃b,(none:Option α)=some b/\P b:={False.elim,λh=>by obtain⟨_,e,q⟩:=h;cases e}
def ua1{P:Bool->Prop}{a:Bool}{R:Prop}(k:R↔P a):R↔∃b,D.bl a=.bl b/\P b:={λq=>{a,rfl,k.mp q},λh=>by obtain⟨_,e,q⟩:=h;cases e;exact k.mpr q}
def wz6{P:Int->Prop}{a:Int}{R:Prop}(k:R↔P a):R↔∃b,D.int a=.int b/\P b:={λq=>{a,rfl,k.mp q},λh=>by obtain⟨_,e,q⟩:=h;cases e;exact k.mpr q}
def wz5{P:Str->Prop}{a:Str}{R:Prop}(k:R↔P a):R↔∃b,D.str a=.str b/\P b:={λq=>{a,rfl,k.mp q},λh=>by obtain⟨_,e,q⟩:=h;cases e;exact k.mpr q}
def vk9{c:β->α}{d:α}{P:β->Prop}(h:∀b,d=c b->False):False↔∃b,d=c b/\P b:={False.elim,λg=>by obtain⟨b,e,_⟩:=g;exact h b e}
def xx8{γ:Type}{c:β->α}{d:α}{P:β->γ->Prop}(h:∀b,d=c b->False):False↔∃b g,d=c b/\P b g:={False.elim,λg=>by obtain⟨b,_,e,_⟩:=g;exact h b e}
def yz9{γ:Type}{P:Int->γ->Prop}{a:Int}{R:Prop}(k:R↔∃g,P a g):R↔∃b g,D.int a=.int b/\P b g:={λh=>by obtain⟨g,q⟩:=k.mp h;exact⟨a,g,rfl,q⟩,λh=>by obtain⟨_,g,e,q⟩:=h;cases e;exact k.mpr ⟨g,q⟩}
def xb6{c:Prop}[Decidable c]:wpR (if c then r else .bad) Q E↔c/\wpR r Q E:=by
 by_cases h:c
 ·rw[if_pos h];exact{λq=>⟨h,q⟩,λq=>q.2}
 ·rw[if_neg h];exact{λq=>q.elim,λq=>h q.1}
def yl0:wpR ((vd2 o st).bind λZ1 st2=>Res.ok (Fl.nx Z1) st2) Q E↔∃Z1,o=some Z1/\Q (.nx Z1) st:=by rw[za2,za9];exact Iff.rfl
def yk9{o:Option Rho}{k:Rho->S->Res S β}{Q:β->S->Prop}{P:Rho->Prop}(h:∀Z1,wpR (k Z1 st) Q E↔P Z1):wpR ((vd2 o st).bind k) Q E↔∃Z1,o=some Z1/\P Z1:=by
 rw[za2,za9];exact exists_congr λZ1=>and_congr Iff.rfl (h Z1)
end
theorem wg5{d:D}{b:Bool}:d.bool?=some b↔d=.bl b:=by
 cases d with
 | bl a=>exact{λe=>congrArg D.bl (Option.some.inj e),λe=>congrArg D.bool? e}
 | _=>exact{λe=>(by cases e),λe=>(by cases e)}
theorem int_iff{d:D}{b:Int}:d.int?=some b↔d=.int b:=by
 cases d with
 | int a=>exact{λe=>congrArg D.int (Option.some.inj e),λe=>congrArg D.int? e}
 | _=>exact{λe=>(by cases e),λe=>(by cases e)}
section
variable{S:Type}{E:Exn->S->Prop}{Z:Rho}{st:S}
section
variable{Q:D->S->Prop}{f f1 f2' f3 fk:Fn S}
theorem wp_fAndV:wpR (ua0 S f1 f2' Z st) Q E↔wpR (f1 Z st) (λd st1=>∃b,d=.bl b/\(if b=true then wpR (f2' Z st1) Q E else Q (.bl false) st1)) E:=wpB λd st1=>by
 cases d with
 | bl b=>cases b<;>exact ua1 Iff.rfl
 | _=>exact vk9 λb e=>by cases e
theorem wp_fNotV:wpR (vz8 S f Z st) Q E↔wpR (f Z st) (λd st1=>∃b,d=.bl b/\Q (.bl (!b)) st1) E:=wpB λd st1=>by
 cases d with
 | bl b=>exact ua1 Iff.rfl
 | _=>exact vk9 λb e=>by cases e
theorem wp_fNeg:wpR (uk4 S f Z st) Q E↔wpR (f Z st) (λd st1=>∃i,d=.int i/\Q (.int (-i)) st1) E:=wpB λd st1=>by
 cases d with
 | int b=>exact wz6 Iff.rfl
 | _=>exact vk9 λb e=>by cases e
def wp_pSo{Q:Option Int->S->Prop}:wpR (pSo S f Z st) Q E↔wpR (f Z st) (λd st1=>∃i,d=.int i/\Q (some i) st1) E:=wpB λd st1=>by
 rw[za2,za9];exact exists_congr λi=>and_congr int_iff Iff.rfl
def wp_fB{Q:Bool->S->Prop}:wpR (fB S f Z st) Q E↔wpR (f Z st) (λd st1=>∃b,d=.bl b/\Q b st1) E:=wpB λd st1=>by
 rw[za9];exact exists_congr λi=>and_congr wg5 Iff.rfl
theorem wp_fDisp{ks:List Str}{fs:List (Fn S)}:wpR (vz9 S ks fs fk Z st) Q E↔wpR (ua5 S fs Z st) (λl st1=>wpR (fk Z st1) (λd st2=>∃x,d=.str x/\D.immL l=true/\wpR (vd2 (vm9 x ks l) st2) Q E) E) E:=wpB λl st1=>wpB λd st2=>by
 cases d with
 | str x=>exact wz5 xb6
 | _=>exact vk9 λb e=>by cases e
theorem xz4{r:Option D}{R1 R0:Res S D}:wpR (match r with
 | some (.bl true)=>R1
 | some (.bl false)=>R0
 | _=>.bad) Q E↔∃b,r=some (.bl b)/\(if b=true then wpR R1 Q E else wpR R0 Q E):=by
 cases r with
 | none=>exact vk9 (c:=λb=>some (D.bl b)) λb e=>by cases e
 | some d=>cases d with
   | bl b=>cases b<;>exact{λq=>{_,rfl,q},λh=>by obtain⟨_,e,q⟩:=h;cases e;exact q}
   | _=>exact vk9 (c:=λb=>some (D.bl b)) λb e=>by cases e
def wp_fChain{o o':D->D->Option D}:wpR (xx7 S o o' f1 f2' f3 Z st) Q E↔wpR (f1 Z st) (λd1 st1=>wpR (f2' Z st1) (λd2 st2=>∃b,o d1 d2=some (.bl b)/\(if b=true then wpR (f3 Z st2) (λd3 st3=>wpR (vd2 (o' d2 d3) st3) Q E) E else Q (.bl false) st2)) E) E:=wpB λd1 st1=>wpB λd2 st2=>by
 refine xz4.trans ?_;rw[za2];exact Iff.rfl
end
section
variable{Q:Fl->S->Prop}{F G B:FnS S}{t:FnT S}{f fk fv:Fn S}{i j k:Nat}
theorem wp_sAug{o:Int->Int->Int}:wpR (vy6 S i f o Z st) Q E↔∃a,rd Z i=some (.int a)/\wpR (f Z st) (λd st1=>∃b Z1,d=.int b/\put Z i (.int (o a b))=some Z1/\Q (.nx Z1) st1) E:=by
 unfold vy6;cases rd Z i with
 | none=>exact vk9 (c:=λb=>some (D.int b)) λb e=>by cases e
 | some d=>cases d with
   | int a=>
     refine(wpB λd st1=>?_).trans {λq=>⟨a,rfl,q⟩,λh=>by obtain⟨_,e,q⟩:=h;cases e;exact q};cases d with
     | int b=>exact yz9 yl0
     | _=>exact xx8 λb e=>by cases e
   | _=>exact vk9 (c:=λb=>some (D.int b)) λb e=>by cases e
theorem wp_sMt{o:List D->D->Option (List D)}:wpR (sMt S i o f Z st) Q E↔∃l,vd8 Z i=some l/\wpR (f Z st) (λd st1=>∃l',o l d=some l'/\Q (.nx (Z.set i (.own (.lst l')))) st1) E:=by
 unfold sMt;cases vd8 Z i with
 | none=>exact yf6
 | some l=>
   refine yf5 (wpB λd st1=>?_);rw[za2,za9];exact Iff.rfl
theorem wp_sItem:wpR (vy5 S i fk fv Z st) Q E↔wpR (fv Z st) (λv st1=>∃l,vd8 Z i=some l/\wpR (fk Z st1) (λd st2=>∃j n,d=.int j/\ixN l.length j=some n/\v.imm=true/\Q (.nx (Z.set i (.own (.lst (l.set n v))))) st2) E) E:=wpB λv st1=>by
 cases vd8 Z i with
 | none=>exact yf6
 | some l=>
   refine yf5 (wpB λd st2=>?_);cases d with
   | int j=>
     refine yz9 ?_;dsimp only;cases ixN l.length j with
     | none=>exact yf6
     | some n=>exact yf5 xb6
   | _=>exact xx8 λb e=>by cases e
theorem wp_sDPut:wpR (wh5 S i fk fv Z st) Q E↔wpR (fv Z st) (λv st1=>∃ks vs,vi0 Z i=some (ks,vs)/\wpR (fk Z st1) (λd st2=>∃kk,zc0 d=some kk/\v.imm=true/\ks.length<sizeLine/\Q (.nx (Z.set i (.own (.dct (.non::(ve4 kk v ks vs).1) (ve4 kk v ks vs).2)))) st2) E) E:=wpB λv st1=>by
 cases vi0 Z i with
 | none=>exact{False.elim,λh=>by obtain⟨_,_,e,_⟩:=h;cases e}
 | some l=>
   obtain⟨ks,vs⟩:=l;refine(wpB λd st2=>?_).trans {λq=>⟨ks,vs,rfl,q⟩,λh=>by obtain⟨_,_,e,q⟩:=h;cases e;exact q};cases zc0 d with
   | none=>exact yf6
   | some kk=>exact yf5 (xb6.trans and_assoc)
theorem wp_sPar{fa:FnA S}:wpR (uj0 S i j fa Z st) Q E↔wpR (fa Z st) (λl st1=>match l with
 | [d,e]=>∃Z1,put Z i d=some Z1/\∃Z2,put Z1 j e=some Z2/\Q (.nx Z2) st1
 | _=>False) E:=wpB λl st1=>by
 match l with
 | []=>exact Iff.rfl
 | [_]=>exact Iff.rfl
 | [d,e]=>exact yk9 λ_=>yl0
 | _::_::_::_=>exact Iff.rfl
theorem wp_sPar3{fa:FnA S}:wpR (vy4 S i j k fa Z st) Q E↔wpR (fa Z st) (λl st1=>match l with
 | [d,e,h]=>∃Z1,put Z i d=some Z1/\∃Z2,put Z1 j e=some Z2/\∃Z3,put Z2 k h=some Z3/\Q (.nx Z3) st1
 | _=>False) E:=wpB λl st1=>by
 match l with
 | []=>exact Iff.rfl
 | [_]=>exact Iff.rfl
 | [_,_]=>exact Iff.rfl
 | [d,e,h]=>exact yk9 λ_=>yk9 λ_=>yl0
 | _::_::_::_::_=>exact Iff.rfl
end
end
section
variable{S α β:Type}{Q:α->S->Prop}{E:Exn->S->Prop}{Z:Rho}{st:S}
def wp_ok{a:α}:wpR (Res.ok a st) Q E↔Q a st:=Iff.rfl
def wp_bad:wpR (Res.bad:Res S α) Q E↔False:=Iff.rfl
def wp_some{a:α}:wpR (vd2 (some a) st) Q E↔Q a st:=Iff.rfl
def wp_none:wpR (vd2 (none:Option α) st) Q E↔False:=Iff.rfl
end
section
variable{S:Type}{E:Exn->S->Prop}{Z:Rho}{st:S}
variable{Q:Fl->S->Prop}{F G B:FnS S}{t:FnT S}{f:Fn S}{i j:Nat}
theorem zb6:wpR (vt1 S F G Z st) Q E↔wpR (F Z st) (λfl st1=>match fl with
 | .nx Z1=>wpR (G Z1 st1) Q E
 | .rt d=>Q (.rt d) st1
 | .bk r=>Q (.bk r) st1
 | .ct r=>Q (.ct r) st1) E:=by
 unfold vt1;rw[za2];cases F Z st with
 | bad=>exact Iff.rfl
 | exc x s=>exact Iff.rfl
 | ok fl s=>cases fl<;>exact Iff.rfl
def wp_sNil:wpR (uj1 S Z st) Q E↔Q (.nx Z) st:=Iff.rfl
def wp_sSet:wpR (vy2 S i f Z st) Q E↔wpR (f Z st) (λd st1=>∃Z1,putN Z i d=some Z1/\Q (.nx Z1) st1) E:=by
 unfold vy2;rw[za2];have:∀d st1,wpR ((vd2 (putN Z i d) st1).bind λZ' st2=>Res.ok (Fl.nx Z') st2) Q E↔∃Z1,putN Z i d=some Z1/\Q (.nx Z1) st1:=λd st1=>by rw[za2,za9];exact Iff.rfl
 simp only[this]
def wp_sSetB:wpR (vq6 S i f Z st) Q E↔wpR (f Z st) (λd st1=>∃Z1,put Z i d=some Z1/\Q (.nx Z1) st1) E:=by
 unfold vq6;rw[za2];have:∀d st1,wpR ((vd2 (put Z i d) st1).bind λZ' st2=>Res.ok (Fl.nx Z') st2) Q E↔∃Z1,put Z i d=some Z1/\Q (.nx Z1) st1:=λd st1=>by rw[za2,za9];exact Iff.rfl
 simp only[this]
def wp_sAsg{g:FnG}:wpR (ue2 S g f Z st) Q E↔wpR (f Z st) (λd st1=>∃Z1,g d Z=some Z1/\Q (.nx Z1) st1) E:=by
 unfold ue2;rw[za2];have:∀d st1,wpR ((vd2 (g d Z) st1).bind λZ' st2=>Res.ok (Fl.nx Z') st2) Q E↔∃Z1,g d Z=some Z1/\Q (.nx Z1) st1:=λd st1=>by rw[za2,za9];exact Iff.rfl
 simp only[this]
open H in
def wp_sIf:wpR (sIf S t F G Z st) Q E↔wpR (t Z st) (λb st1=>if b=true then wpR (F Z st1) Q E else wpR (G Z st1) Q E) E:=by
 unfold sIf;rw[za2];refine iff_of_eq (congrArg (λz=>wpR (t Z st) z E) (funext λb=>funext λst1=>propext ?_));cases b<;>exact Iff.rfl
open H in
def wp_sRet:wpR (ud9 S f Z st) Q E↔wpR (f Z st) (λd st1=>(d.imm=true\/d.flat=true)/\Q (.rt d) st1) E:=by
 unfold ud9;rw[za2];refine iff_of_eq (congrArg (λz=>wpR (f Z st) z E) (funext λb=>funext λst1=>propext ?_));by_cases h:b.imm=true\/b.flat=true
 ·rw[if_pos h];exact{λq=>⟨h,q⟩,λq=>q.2}
 ·rw[if_neg h];exact{λq=>q.elim,λq=>h q.1}
def wp_sRetV:wpR (vt2 S i Z st) Q E↔∃d,own? Z i=some d/\Q (.rt d) st:=by
 unfold vt2;rw[za2,za9];exact Iff.rfl
def wp_sDrop:wpR (vt4 S f Z st) Q E↔wpR (f Z st) (λ_ st1=>Q (.nx Z) st1) E:=by unfold vt4;rw[za2];exact Iff.rfl
def wp_sFor{fz:List Nat}{fi:FnI S}{g:FnG}:wpR (ue0 S fz fi g B Z st) Q E↔wpR (fi (frz fz Z) st) (λl st1=>wpR (vn5 S g B l (frz fz Z) st1) Q E) E:=by unfold ue0;rw[za2]
def wp_sBad:wpR (uj2 S Z st) Q E↔False:=Iff.rfl
theorem yw8(I:Nat->Rho->S->Prop):∀{l:List D} {Z:Rho} {st:S} (n:Nat),I n Z st->
 (∀i d Z st,l[i]?=some d->I (n+i) Z st->∃Z1,g d Z=some Z1/\wpR (B Z1 st) (λfl st'=>match fl with
  | .nx Z2=>I (n+i+1) Z2 st'
  | .ct Z2=>I (n+i+1) Z2 st'
  | .bk Z2=>Q (.nx Z2) st'
  | .rt d=>Q (.rt d) st') E)->(∀Z st,I (n+l.length) Z st->Q (.nx Z) st)->wpR (vn5 S g B l Z st) Q E
 | [],Z,st,n,h0,_,he=>he Z st h0
 | d::l,Z,st,n,h0,hs,he=>by
   obtain⟨Z1,e1,q⟩:=hs 0 d Z st rfl h0;unfold vn5;rw[e1];refine za2.mpr (wp_some.mpr (za2.mpr (za6 q (λfl st' z=>?_) λx st' z=>z)));have go:∀Z2,I (n+1) Z2 st'->wpR (vn5 S g B l Z2 st') Q E:=λZ2 z=>yw8 I (n+1) z (λi d Z st h h'=>by
    have:=hs (i+1) d Z st (by simpa using h) (by rw[show n+(i+1)=n+1+i by omega];exact h');rw[show n+(i+1)=n+1+i by omega] at this;exact this) λZ st h=>he Z st (by rw[Ax0,show n+(l.length+1)=n+1+l.length by omega];exact h)
   cases fl with
   | nx Z2=>exact go Z2 z
   | ct Z2=>exact go Z2 z
   | bk Z2=>exact z
   | rt d=>exact z
end
section
variable{S:Type}{E:Exn->S->Prop}{Z:Rho}{st:S}{Q:D->S->Prop}{f f1 f2' f3:Fn S}{i:Nat}{t:FnT S}
def wp_fC{d:D}:wpR (fC S d Z st) Q E↔Q d st:=Iff.rfl
def wp_fVk:wpR (fVk S i Z st) Q E↔wpR (vd2 (kp Z i) st) Q E:=Iff.rfl
def wp_f2{o:D->D->Option D}:wpR (f2 S o f1 f2' Z st) Q E↔wpR (f1 Z st) (λd1 st1=>wpR (f2' Z st1) (λd2 st2=>wpR (vd2 (o d1 d2) st2) Q E) E) E:=by
 unfold f2;rw[za2];simp only[za2]
def wp_fA{o:List D->Option D}{fa:FnA S}:wpR (fA S o fa Z st) Q E↔wpR (fa Z st) (λl st1=>wpR (vd2 (o l) st1) Q E) E:=by unfold fA;rw[za2]
def wp_aNil{Q:List D->S->Prop}:wpR (vx2 S Z st) Q E↔Q [] st:=Iff.rfl
def wp_aCons{Q:List D->S->Prop}{r:FnA S}:wpR (vf8 S f r Z st) Q E↔wpR (f Z st) (λd st1=>wpR (r Z st1) (λl st2=>Q (d::l) st2) E) E:=by
 unfold vf8;rw[za2];simp only[za2];exact Iff.rfl
open H in
def wp_fCall{F:List D->Res Unit D}{fa:FnA S}:wpR (vr6 S F fa Z st) Q E↔wpR (fa Z st) (λl st1=>wpR (F l) (λd _=>Q d st1) λ_ _=>False) E:=by
 unfold vr6;rw[za2];refine iff_of_eq (congrArg (λz=>wpR (fa Z st) z E) (funext λb=>funext λst1=>propext ?_));cases F b<;>exact Iff.rfl
open H in
def wp_fCallS{F:List D->S->Res S D}{fa:FnA S}:wpR (yv2 S F i fa Z st) Q E↔Z[i]?=some .hnd/\wpR (fa Z st) (λl st1=>wpR (F l st1) Q λ_ _=>False) E:=by
 unfold yv2;split
 ·rename_i h
  rw[za2];have:∀b st1,wpR (match F b st1 with
   | .ok d st2=>Res.ok d st2
   | _=>Res.bad) Q E↔wpR (F b st1) Q λ_ _=>False:=λb st1=>by cases F b st1<;>exact Iff.rfl
  refine(iff_of_eq (congrArg (λz=>wpR (fa Z st) z E) (funext λd=>funext λst1=>propext (this d st1)))).trans ?_;exact{λq=>⟨h,q⟩,λq=>q.2}
 ·rename_i h
  exact{λq=>q.elim,λq=>h q.1}
open H in
def wp_fIfE:wpR (uk5 S t f1 f2' Z st) Q E↔wpR (t Z st) (λb st1=>if b=true then wpR (f1 Z st1) Q E else wpR (f2' Z st1) Q E) E:=by
 unfold uk5;rw[za2];refine iff_of_eq (congrArg (λz=>wpR (t Z st) z E) (funext λb=>funext λst1=>propext ?_));cases b<;>exact Iff.rfl
def wp_fCut{lo hi:FnO S}:wpR (uh1 S f lo hi Z st) Q E↔wpR (f Z st) (λd st1=>wpR (lo Z st1) (λl st2=>wpR (hi Z st2) (λh st3=>wpR (vd2 (uf5 l h d) st3) Q E) E) E) E:=by
 unfold uh1;rw[za2];simp only[za2]
def wp_pNo{Q:Option Int->S->Prop}:wpR (pNo S Z st) Q E↔Q none st:=Iff.rfl
def wp_iSeq{Q:List D->S->Prop}{sel:D->Option (List D)}:wpR (vp6 S sel f Z st) Q E↔wpR (f Z st) (λd st1=>wpR (vd2 (sel d) st1) Q E) E:=by unfold vp6;rw[za2]
def wp_iArgs{Q:List D->S->Prop}{o:List D->Option (List D)}{fa:FnA S}:wpR (vk8 S o fa Z st) Q E↔wpR (fa Z st) (λl st1=>wpR (vd2 (o l) st1) Q E) E:=by unfold vk8;rw[za2]
def wp_fComp{fz:List Nat}{ixs:List (Option Nat)}{fi:FnI S}{g:FnG}:wpR (vn6 S fz ixs fi g t f Z st) Q E↔wpR (fi (frz fz Z) st) (λl st1=>wpR (vi1 S g t f l [] (pickR (frz fz Z) ixs) st1) (λr st2=>Q (.lst r) st2) E) E:=by
 unfold vn6;rw[za2];simp only[za2];exact Iff.rfl
theorem zs6{g:FnG}{Q:List D->S->Prop}(I:Nat->List D->Rho->S->Prop):∀{l acc:List D} {Z:Rho} {st:S} (n:Nat),I n acc Z st->
 (∀i d acc Z st,l[i]?=some d->I (n+i) acc Z st->∃Z1,g d Z=some Z1/\wpR (t Z1 st) (λb st1=>if b=true then wpR (f Z1 st1) (λy st2=>y.imm=true/\acc.length<sizeLine/\I (n+i+1) (acc++[y]) Z1 st2) E else I (n+i+1) acc Z1 st1) E)->
 (∀acc Z st,I (n+l.length) acc Z st->Q acc st)->wpR (vi1 S g t f l acc Z st) Q E
 | [],acc,Z,st,n,h0,_,he=>he acc Z st h0
 | d::l,acc,Z,st,n,h0,hs,he=>by
   obtain⟨Z1,e1,q⟩:=hs 0 d acc Z st rfl h0;have go:∀acc st',I (n+1) acc Z1 st'->wpR (vi1 S g t f l acc Z1 st') Q E:=λacc st' z=>zs6 I (n+1) z (λi d acc Z st h h'=>by
    have:=hs (i+1) d acc Z st (by simpa using h) (by rw[show n+(i+1)=n+1+i by omega];exact h');rw[show n+(i+1)=n+1+i by omega] at this;exact this) λacc Z st h=>he acc Z st (by rw[Ax0,show n+(l.length+1)=n+1+l.length by omega];exact h)
   unfold vi1;rw[e1];refine za2.mpr (wp_some.mpr (za2.mpr (za6 q (λb st' z=>?_) λx st' z=>z)));cases b with
   | true=>
     have z:wpR (f Z1 st') (λy st2=>y.imm=true/\acc.length<sizeLine/\I (n+0+1) (acc++[y]) Z1 st2) E:=z;rw[if_pos rfl];refine za2.mpr (za6 z (λy st2 hI117=>?_) λx st' z=>z);obtain⟨h1,h2,h3⟩:=hI117;rw[if_pos ⟨h1,h2⟩];exact go _ _ h3
   | false=>exact go _ _ z
variable{Q:Bool->S->Prop}{t1 t2:FnT S}
open H in
def wp_fAnd:wpR (uh2 S t1 t2 Z st) Q E↔wpR (t1 Z st) (λb st1=>if b=true then wpR (t2 Z st1) Q E else Q false st1) E:=by
 unfold uh2;rw[za2];refine iff_of_eq (congrArg (λz=>wpR (t1 Z st) z E) (funext λb=>funext λst1=>propext ?_));cases b<;>exact Iff.rfl
open H in
def wp_fOr:wpR (fOr S t1 t2 Z st) Q E↔wpR (t1 Z st) (λb st1=>if b=true then Q true st1 else wpR (t2 Z st1) Q E) E:=by
 unfold fOr;rw[za2];refine iff_of_eq (congrArg (λz=>wpR (t1 Z st) z E) (funext λb=>funext λst1=>propext ?_));cases b<;>exact Iff.rfl
def wp_fNot:wpR (ug8 S t1 Z st) Q E↔wpR (t1 Z st) (λb st1=>Q (!b) st1) E:=by unfold ug8;rw[za2];exact Iff.rfl
def wp_fTrue:wpR (vz7 S Z st) Q E↔Q true st:=Iff.rfl
end
theorem zg3{n p:Nat}{B:FnS Unit}{l:List D}{Q:D->Unit->Prop}{E:Exn->Unit->Prop}(hl:l.length=p)(hp:p<=n)(h:wpR (B (rho0 n l) ()) (λfl st=>match fl with
 | .rt d=>Q d st
 | .nx _=>Q .non st
 | _=>False) E):wpR (dfn n p B l) Q E:=by
 unfold dfn;rw[if_pos ⟨hl,hp⟩];cases q:B (rho0 n l) () with
 | bad=>rw[q] at h;exact h
 | exc x u=>rw[q] at h;exact h
 | ok fl u=>rw[q] at h;cases fl<;>exact h
theorem yc7{S:Type}{n p:Nat}{B:FnS S}{l:List D}{st:S}{Q:D->S->Prop}{E:Exn->S->Prop}(hl:l.length+1=p)(hp:p<=n)(h:wpR (B (rhoS n l) st) (λfl st=>match fl with
 | .rt d=>Q d st
 | .nx _=>Q .non st
 | _=>False) E):wpR (vp8 n p B l st) Q E:=by
 unfold vp8;rw[if_pos ⟨hl,hp⟩];cases q:B (rhoS n l) st with
 | bad=>rw[q] at h;exact h
 | exc x u=>rw[q] at h;exact h
 | ok fl u=>rw[q] at h;cases fl<;>exact h
def zc9{m:Int}{st:Dr}{Q:D->Dr->Prop}{E:Exn->Dr->Prop}(h0:0<m)(h1:m<1073741824)(h2:st.2<2 ^ 40)(h:∀v st',0<=v->v<m->st'.2=st.2+1->Q (.int v) st'):wpR (vg3 [.int m] st) Q E:=by
 unfold vg3;simp only;rw[if_pos ⟨h0,h1,h2⟩];split
 ·exact h _ _ (Int.emod_nonneg _ 'o') (Int.emod_lt_of_pos _ h0) rfl
 ·exact h _ _ (Int.emod_nonneg _ 'o') (Int.emod_lt_of_pos _ h0) rfl
def flat_lst{l:List D}:D.flat (.lst l)=D.immL l:=rfl
def flat_dct{k l:List D}:D.flat (.dct k l)=D.immL l:=rfl
def flat_int{i:Int}:D.flat (.int i)=false:=rfl
def flat_str{i:Str}:D.flat (.str i)=false:=rfl
def flat_bl{i:Bool}:D.flat (.bl i)=false:=rfl
def flat_non:D.flat .non=false:=rfl
def flat_tup{l:List D}:D.flat (.tup l)=false:=rfl
def zj1{n:Nat}(h:n<=1000):n<=sizeLine:=Cq0 (zq5 h)
def lt_size{n:Nat}(h:n<=1000):n<sizeLine:=zq5 h
theorem zb1{α:Type}{f:α->D}(h:∀a,(f a).imm=true):∀l:List α,D.immL (l.map f)=true
 | []=>rfl
 | a::l=>by simp only[Au0,D.immL,h a,zb1 h l,Ca0]
theorem we9:D.immL l=true↔∀d∈l,d.imm=true:=by
 induction l with
 | nil=>simp[D.immL]
 | cons a l ih=>simp[D.immL,ih]
def zy4(m:D.immL l=true)(h:l.length<=1000):vn1 l=some (.tup l):=if_pos {m,zj1 h}
def zp1{l:List D}(m:D.immL l=true)(h:l.length<=1000):vq9 l=some (.lst l):=if_pos {m,zj1 h}
def vg5(h1:a.imm=true)(h2:b.imm=true):vn1 [a,b]=some (.tup [a,b]):=zy4 (by simp[D.immL,h1,h2]) 'd'
def uf2(h1:a.imm=true)(h2:b.imm=true)(h3:c.imm=true):vn1 [a,b,c]=some (.tup [a,b,c]):=zy4 (by simp[D.immL,h1,h2,h3]) 'd'
def vh3:vq9 []=some (.lst []):=zp1 rfl 'd'
def vu3{a b:D}(h1:a.imm=true)(h2:b.imm=true):vq9 [a,b]=some (.lst [a,b]):=zp1 (by simp[D.immL,h1,h2]) 'd'
def zu5(m:d.imm=true)(h:l.length<=1000):uf6 l d=some (l++[d]):=if_pos {m,lt_size h}
def imm_int{i:Int}:D.imm (.int i)=true:=by simp[D.imm]
def imm_str{i:Str}:D.imm (.str i)=true:=by simp[D.imm]
def imm_bl{i:Bool}:D.imm (.bl i)=true:=by simp[D.imm]
def imm_non:D.imm .non=true:=by simp[D.imm]
def imm_tup{l:List D}:D.imm (.tup l)=D.immL l:=by simp[D.imm]
def zi5{S:Type}{E:Exn->S->Prop}{Z:Rho}{st:S}{Q:List D->S->Prop}{g:FnG}{t:FnT S}{f:Fn S}{l:List D}(h:D->D)(R:Rho->Prop)(h0:R Z)(hs:∀d∈l,∀Z,R Z->∃Z1,g d Z=some Z1/\R Z1/\wpR (t Z1 st) (λb st1=>b=true/\st1=st) E/\wpR (f Z1 st) (λy st2=>y=h d/\y.imm=true/\st2=st) E)(hl:l.length<=sizeLine)(hq:Q (l.map h) st):wpR (vi1 S g t f l [] Z st) Q E:=by
 refine zs6 (λn acc Z' st'=>acc=(l.take n).map h/\R Z'/\st'=st) 0 {'d',h0,rfl} (λi d acc Z' st' hd hI119=>?_) λacc Z' st' hI118=>?_
 ·obtain⟨e1,r,e2⟩:=hI119
  subst e2;have hi:i<l.length:=(Ac0.mp hd).1;obtain⟨Z1,q1,r1,q2,q3⟩:=hs d (Am0 hd) Z' r;refine{Z1,q1,za6 q2 (λb st1 hI120=>?_) λx s z=>z};obtain⟨eb,es⟩:=hI120;subst eb es;rw[if_pos rfl];refine za6 q3 (λy st2 ⟨ey,my,es⟩=>{my,?_,?_,r1,es}) λx s z=>z
  ·rw[e1,Aa0,Be0];omega
  ·rw[e1,ey,Ah0,Av0,hd,Ay0];rfl
 ·obtain⟨e1,r,e2⟩:=hI118
  rw[Ah0,Bd0] at e1;subst e1 e2;exact hq
theorem yj8{α:Type}{f:α->Int}:∀l:List α,zu1 (l.map λa=>.int (f a))=some (l.map f)
 | []=>rfl
 | a::l=>by simp only[Au0,zu1,yj8 l,At0]
theorem zu9{α:Type}{f:α->Bool}:∀l:List α,zh1 (l.map λa=>.bl (f a))=some (l.map f)
 | []=>rfl
 | a::l=>by simp only[Au0,zh1,zu9 l,At0]
mutual
noncomputable def D.lw:D->Bool
 | .bl _=>false
 | .dct _ _=>false
 | .fl l=>D.lwL l&&decide (l.length<=sizeLine)
 | .fd _ _=>false
 | .tup l=>D.lwL l&&decide (l.length<=sizeLine)
 | .lst l=>D.lwL l&&decide (l.length<=sizeLine)
 | _=>true
noncomputable def D.lwL:List D->Bool
 | []=>true
 | d::l=>D.lw d&&D.lwL l
end
theorem yn4:D.lwL l=true↔∀d∈l,d.lw=true:=by
 induction l with
 | nil=>simp[D.lwL]
 | cons a l ih=>simp[D.lwL,ih]
theorem xy7(h:d∈l):d.dep<=D.depL l:=by
 induction l with
 | nil=>cases h
 | cons a l ih=>
   unfold D.depL;rcases Aj0.mp h with e | e
   ·subst e;omega
   ·have:=ih e;omega
def xr4(h:d∈vh2 l l):∃x∈l,d=.tup [x,x]:=by
 obtain⟨i,hi⟩:=Bt0 h;obtain⟨x,y,h1,h2,rfl⟩:=ys3 hi;rw[h1] at h2;cases h2;exact{x,Am0 h1,rfl}
def wg6{l:List D}:zh1 (l.map λ_=>.bl true)=some (l.map λ_=>true):=zu9 (f:=λ_=>true) l
def yz6{a b:D}(ha:a.imm=true)(hb:b.imm=true){c:Bool}:oIx (.lst [a,b]) (.int (if c=true then 1 else 0))=some (if c=true then b else a):=by
 cases c
 ·show im (some a)=some a
  simp[im,ha]
 ·show im (some b)=some b
  simp[im,hb]
def zh2{j:Int}(h:j<=1000)(h0:0<=j):ym9 [.int j]=some (zm0 0 j.toNat):=if_pos {'o','o'}
def zd8{lo:Int}{n:Nat}:(zm0 lo n).length=n:=by unfold zm0;simp
theorem zf8{lo:Int}{n i:Nat}(h:(zm0 lo n)[i]?=some d):d=.int (lo+i)/\i<n:=by
 unfold zm0 at h;rw[Af0] at h;cases q:(List.range n)[i]? with
 | none=>rw[q] at h;cases h
 | some k=>
   rw[q] at h;obtain⟨hi,e⟩:=Ac0.mp q;rw[List.getElem_range] at e;subst e;cases h;exact{rfl,by simpa using hi}
mutual
theorem xg2:∀{d:D},d.lw=true->D.eqq d d=some true
 | .non,_=>rfl
 | .bl _,h=>by simp[D.lw] at h
 | .int i,_=>by simp[D.eqq]
 | .str i,_=>by simp[D.eqq]
 | .tup l,h=>by
   have h':D.lwL l=true/\l.length<=sizeLine:=by simpa [D.lw] using h
   simp only[D.eqq,zx5 h'.1]
 | .lst l,h=>by
   have h':D.lwL l=true/\l.length<=sizeLine:=by simpa [D.lw] using h
   simp only[D.eqq,zx5 h'.1,if_true]
 | .fl l,h=>by
   have h':D.lwL l=true/\l.length<=sizeLine:=by simpa [D.lw] using h
   simp only[D.eqq,zx5 h'.1,if_true]
 | .dct _ _,h=>by simp[D.lw] at h
 | .fd _ _,h=>by simp[D.lw] at h
theorem zx5:∀{l:List D},D.lwL l=true->D.eqL l l=some true
 | [],_=>rfl
 | d::l,h=>by
   have h':d.lw=true/\D.lwL l=true:=by simpa [D.lwL] using h
   simp only[D.eqL,xg2 h'.1,zx5 h'.2,Bu0,At0,Ca0]
end
theorem xt6{α:Type}{f:α->D}(h:∀a,(f a).lw=true):∀l:List α,D.lwL (l.map f)=true
 | []=>rfl
 | a::l=>by simp only[Au0,D.lwL,h a,xt6 h l,Ca0]
def wi9(h:D.lwL l=true)(hl:l.length<=1000):D.lw (.tup l)=true:=by
 simp only[D.lw,h,Bool.true_and,decide_eq_true_eq];exact zj1 hl
theorem zp7{α:Type}{f:α->D}{n:Nat}(h:∀a,(f a).dep<=n):∀l:List α,D.depL (l.map f)<=n
 | []=>An0 _
 | a::l=>by
   have h1:=h a;have h2:=zp7 h l;simp only[Au0,D.depL];omega
def wd9{neg:Bool}{d:D}(h:d.lw=true)(hd:d.dep<=30):oEq neg d d=some (.bl (if neg then false else true)):=by
 unfold oEq;rw[if_pos hd,xg2 h];cases neg<;>rfl
def xz2{l:List D}{k:Nat}:vo5 l none (some (k:Int))=l.take k:=by
 unfold vo5;rw[HT.sIx_nat,HT.sIx_none,Nat.sub_zero,List.drop_zero];by_cases h:k<=l.length
 ·rw[Nat.min_eq_left h]
 ·rw[Nat.min_eq_right 'o',Bd0,Bv0 'o']
section
variable{S:Type}{E:Exn->S->Prop}{Z:Rho}{st:S}{Q:Fl->S->Prop}{f fk fv:Fn S}{i j k:Nat}{t:FnT S}{B:FnS S}
theorem yc5(I:Rho->S->Prop)(μ:Rho->S->Nat)(hs:∀Z st,I Z st->wpR (t Z st) (λb st1=>if b=true then wpR (B Z st1) (λfl st2=>match fl with
 | .nx Z2=>I Z2 st2/\μ Z2 st2<μ Z st
 | .ct Z2=>I Z2 st2/\μ Z2 st2<μ Z st
 | .bk Z2=>Q (.nx Z2) st2
 | .rt d=>Q (.rt d) st2) E else Q (.nx Z) st1) E):∀(n:Nat) (Z:Rho) (st:S),I Z st->μ Z st<n->wpR (zi2 S t B n Z st) Q E
 | 0,_,_,_,h=>absurd h (Nat.not_lt_zero _)
 | n+1,Z,st,h,hm=>by
   unfold zi2;refine za2.mpr (za6 (hs Z st h) (λb st1 q=>?_) λx s z=>z);cases b with
   | false=>exact q
   | true=>
     have q:wpR (B Z st1) _ E:=q;rw[if_pos rfl];refine za2.mpr (za6 q (λfl st2 z=>?_) λx s z=>z);cases fl with
     | nx Z2=>exact yc5 I μ hs n Z2 st2 z.1 (by have:=z.2;omega)
     | ct Z2=>exact yc5 I μ hs n Z2 st2 z.1 (by have:=z.2;omega)
     | bk Z2=>exact z
     | rt d=>exact z
theorem xm7(I:Rho->S->Prop)(μ:Rho->S->Nat)(h0:I Z st)(hs:∀Z st,I Z st->wpR (t Z st) (λb st1=>if b=true then wpR (B Z st1) (λfl st2=>match fl with
 | .nx Z2=>I Z2 st2/\μ Z2 st2<μ Z st
 | .ct Z2=>I Z2 st2/\μ Z2 st2<μ Z st
 | .bk Z2=>Q (.nx Z2) st2
 | .rt d=>Q (.rt d) st2) E else Q (.nx Z) st1) E):wpR (yi4 S t B Z st) Q E:=by
 have h:=yc5 (Q:=Q) (E:=E) I μ hs (μ Z st+1) Z st h0 (Nat.lt_succ_self _);rw[yr6 (n:=μ Z st+1) (λz=>by rw[z] at h;exact h)];exact h
end
def wj2[∀i j,Decidable (C i j)]{i j:Int}(h:C i j):iOp C g (.int i) (.int j)=some (g i j):=if_pos h
section
variable{S:Type}{E:Exn->S->Prop}{Z:Rho}{st:S}{Q:Fl->S->Prop}{F G:FnS S}
def wt6(I:Rho->S->Prop)(h1:wpR (F Z st) (λfl st1=>∃Z1,fl=.nx Z1/\I Z1 st1) E)(h2:∀Z1 st1,I Z1 st1->wpR (G Z1 st1) Q E):wpR (vt1 S F G Z st) Q E:=
 zb6.mpr (za6 h1 (λfl st1 ⟨Z1,e,h⟩=>by subst e;exact h2 Z1 st1 h) λx s z=>z)
end
def xf0{n:Nat}(h:n<=1000000):n<sizeLine:=by rw[sizeLine_eq];omega
def xa7{l:List D}{v:Int}(h0:0<=v)(h1:v<l.length):∃d,atI l v=some d/\l[v.toNat]?=some d:=by
 have hv:v.toNat<l.length:=by omega
 refine{l[v.toNat],?_,Ad0 hv};have:=xa8 (Ad0 hv);rwa [show ((v.toNat:Nat):Int)=v by omega] at this
def yu2{v:Int}(m:D.immL l=true)(h0:0<=v)(h1:v<l.length):∃d∈l,oIx (.lst l) (.int v)=some d:=by
 obtain⟨d,e,e2⟩:=xa7 h0 h1;have hd:=Am0 e2;refine{d,hd,?_};show im (atI l v)=_;rw[e];simp[im,we9.mp m d hd]
def xv9{v:Int}(m:d.imm=true)(h0:0<=v)(h:l[v.toNat]?=some d):oIx (.lst l) (.int v)=some d/\oIx (.tup l) (.int v)=some d:=by
 have h1:v<l.length:=by have:=(Ac0.mp h).1;omega
 obtain⟨d',e,e2⟩:=xa7 h0 h1;rw[h] at e2;cases e2;constructor
 ·show im (atI l v)=_
  rw[e];simp[im,m]
 ·show im (atI l v)=_
  rw[e];simp[im,m]
def yo4{i j:Int}:D.eqq (.int i) (.int j)=some (i == j):=by simp only[D.eqq]
def wq6{i j:Str}:D.eqq (.str i) (.str j)=some (i == j):=by simp only[D.eqq]
def zr3{neg:Bool}{i j:Int}:oEq neg (.int i) (.int j)=some (.bl (if neg then !(i == j) else (i == j))):=by
 unfold oEq;rw[if_pos (by simp[D.dep]),yo4];rfl
def yn0{neg:Bool}{i j:Str}:oEq neg (.str i) (.str j)=some (.bl (if neg then !(i == j) else (i == j))):=by
 unfold oEq;rw[if_pos (by simp[D.dep]),wq6];rfl
theorem yv8:∀{ks vs:List D},ks.length=vs.length->(vc1 k ks (List.zipWith g ks vs)).isSome=(vc1 k ks vs).isSome
 | [],[],_=>rfl
 | a::ks,b::vs,h=>by
   show (vc1 k (a::ks) (g a b::List.zipWith g ks vs)).isSome=_;unfold vc1;by_cases e:zc0 a=some k
   ·rw[if_pos e,if_pos e];rfl
   ·rw[if_neg e,if_neg e];exact yv8 (by simpa using h)
 | [],_::_,h=>by cases h
 | _::_,[],h=>by cases h
theorem yw0:∀{ks vs:List D},ks.length=vs.length->(vc1 k (ks++[vc4 k']) (vs++[v])).isSome=((vc1 k ks vs).isSome||decide (k'=k))
 | [],[],_=>by
   show (vc1 k [vc4 k'] [v]).isSome=_;unfold vc1;rw[zh3];by_cases e:k'=k
   ·rw[if_pos (by rw[e])];simp[e]
   ·rw[if_neg (λz=>e (Option.some.inj z))];simp[vc1,e]
 | a::ks,b::vs,h=>by
   show (vc1 k (a::(ks++[vc4 k'])) (b::(vs++[v]))).isSome=_;unfold vc1;by_cases e:zc0 a=some k
   ·rw[if_pos e,if_pos e];rfl
   ·rw[if_neg e,if_neg e];exact yw0 (by simpa using h)
 | [],_::_,h=>by cases h
 | _::_,[],h=>by cases h
def yc2(h:ks.length=vs.length):(ve4 k v ks vs).1.length=(ve4 k v ks vs).2.length/\(ve4 k v ks vs).1.length<=ks.length+1:=by
 unfold ve4;split
 ·simp[List.length_zipWith,h]
 ·simp[h]
open H in
def xz1(h:ks.length=vs.length):(vc1 k (ve4 k' v ks vs).1 (ve4 k' v ks vs).2).isSome=((vc1 k ks vs).isSome||decide (k'=k)):=by
 unfold ve4;split
 ·rename_i hs
  rw[yv8 h];by_cases e:k'=k
  ·subst e;simp[hs]
  ·simp[e]
 ·exact yw0 h
instance Holds(d:D)(n:Nat)(P:List vc6->Prop):Prop:=∃ks vs,d=.dct (.non::ks) vs/\D.immL vs=true/\ks.length=vs.length/\ks.length<=n/\∀k,(vc1 k ks vs).isSome=true↔P k
def Holds.put{ks vs:List D}{n:Nat}{P:List vc6->Prop}{k:List vc6}{v:D}(h:Holds (.dct (.non::ks) vs) n P)(hv:v.imm=true):Holds (.dct (.non::(ve4 k v ks vs).1) (ve4 k v ks vs).2) (n+1) (λq=>P q\/k=q):=by
 obtain⟨ks',vs',e,h1,h2,h3,h4⟩:=h;cases e;refine{_,_,rfl,zx2 hv h1,(yc2 h2).1,by have:=(yc2 (k:=k) (v:=v) h2).2;omega,λq=>?_};rw[xz1 h2,Bool.or_eq_true,h4 q,decide_eq_true_eq]
theorem Holds.all:∀{ps:List (List vc6×D)} {ks vs:List D} {n:Nat} {P:List vc6->Prop},Holds (.dct (.non::ks) vs) n P->(∀p∈ps,p.2.imm=true)->Holds (.dct (.non::(zi3 ps (ks,vs)).1) (zi3 ps (ks,vs)).2) (n+ps.length) (λq=>P q\/∃p∈ps,p.1=q)
 | [],ks,vs,n,P,h,_=>by
   obtain⟨ks',vs',e,h1,h2,h3,h4⟩:=h;exact{ks',vs',e,h1,h2,h3,λq=>by rw[h4 q];simp}
 | p::ps,ks,vs,n,P,h,hv=>by
   have h':=Holds.all (ps:=ps) (h.put (k:=p.1) (hv p 'd')) λq hq=>hv q (by simp[hq])
   obtain⟨ks',vs',e,h1,h2,h3,h4⟩:=h';refine{ks',vs',e,h1,h2,by simp;omega,λq=>?_};rw[h4 q];simp only[Aj0,exists_eq_or_imp];constructor
   ·rintro ((a | a) | a)
    ·exact .inl a
    ·exact .inr (.inl a)
    ·exact .inr (.inr a)
   ·rintro (a | a | a)
    ·exact .inl (.inl a)
    ·exact .inl (.inr a)
    ·exact .inr a
def Holds.in_{n:Nat}(h:Holds d n P)(hk:zc0 k=some kk){b:Bool}(hb:b=true↔P kk):vl1 false k d=some (.bl b)/\vl1 true k d=some (.bl (!b)):=by
 obtain⟨ks,vs,rfl,h1,h2,h3,h4⟩:=h;have e:(vc1 kk ks vs).isSome=b:=by rw[Bool.eq_iff_iff,h4,hb]
 constructor
 ·show (zc0 k).map _=_
  rw[hk];show some (D.bl (vc1 kk ks vs).isSome)=_;rw[e]
 ·show (zc0 k).map _=_
  rw[hk];show some (D.bl (!(vc1 kk ks vs).isSome))=_;rw[e]
def Holds.flat{d:D}{n:Nat}{P:List vc6->Prop}(h:Holds d n P):d.flat=true:=by
 obtain⟨ks,vs,rfl,h1,h2,h3,h4⟩:=h;exact h1
def Holds.nil{n:Nat}:Holds (.dct [.non] []) n (λ_=>False):={[],[],rfl,rfl,rfl,An0 _,λk=>by simp[vc1]}
def Holds.imp{n m:Nat}(h:Holds d n P)(hm:n<=m)(hp:∀k,P k↔P' k):Holds d m P':=by
 obtain⟨ks,vs,e,h1,h2,h3,h4⟩:=h;exact{ks,vs,e,h1,h2,'o',λk=>by rw[h4 k,hp k]}
instance FrT(K:PySem.W.Frag)(a:Addr)(xs:List V):Prop:=∃(o:Obj) (its:Array Value) (n:Nat),K.lookup a=some o/\o.cls=.type "tuple"/\o.data=.seq its n/\its.size<=sizeLine/\vc8 xs its.toList
def FrT.sq{K:PySem.W.Frag}{a:Addr}{xs:List V}{H:Hp}(h:FrT K a xs):SqT K H a xs:=.inr h
instance ui4(K:PySem.W.Frag)(a:Addr)(tbl:List (Int×Int)):Prop:=∃vs,FrT K a vs/\vs.length=tbl.length/\∀(i:Nat) (p:Int×Int),tbl[i]?=some p->∃b,vs[i]?=some (.ref b)/\FrT K b [.int p.1,.int p.2]
section
variable{X:Cx}{S:Type}{W:Wd S}{c:Dx W}{g ga gb gc:Gr}{a b:Expr}{fa fb fc:Fn S}{pos p2:Pos}{E:Exn->S->Prop}{Z:Rho}{st:S}
def wf9{x:Str}{i:Int}(hc:∃t,X.mg x=some (.int i t))(hg:Gl X x)(hd:autoParam ((x == ("__debug__" : Str))=false) uD):DE X c g (.Name x pos) (fC S (.int i)):=by
 obtain⟨t,hm⟩:=hc;exact(xr1 (v:=.int i) hg hm ⟨t,rfl⟩ hd).imp λY H Q ⟨Z,st,R,ok,w⟩=>w _ _ Ext.refl ok (New.val R (show New c H H (.int _) (.int _) from Is.int_iff.mpr rfl) g)
instance vy1(S:Type)(tbl:List (Int×Int))(i j:Nat)(f:Fn S):FnS S:=λZ st=>(f Z st).bind λd st1=>match d with
 | .int k=>if 0<=k then match tbl[k.toNat]? with
  | some p=>(vd2 (put Z i (.int p.1)) st1).bind λZ1 st2=>(vd2 (put Z1 j (.int p.2)) st2).bind λZ2 st3=>.ok (.nx Z2) st3
  | none=>.bad
   else .bad
 | _=>.bad
open H in
def wq8{x n1 n2:Str}{e:Expr}{f:Fn S}{tbl:List (Int×Int)}{i j:Nat}{a0:Addr}{px p1 p2 pt ps:Pos}{kt}(hc:X.calm=true)(hK:c.K=X.K)(hm:∃a0,X.mg x=some (.ref a0)/\ui4 X.K a0 tbl)(hg:Gl X x)(hN:X.N.Nodup)(hi:X.N[i]?=some n1)(hj:X.N[j]?=some n2)(h1:Loc X.env.scope n1)(h2:Loc X.env.scope n2)(he:DE X c .R e f)(hpi:yh2 e)(hd:autoParam ((x == ("__debug__" : Str))=false) uD)(hf1:X.fn n1=true\/X.env.scope.names.lookup n1=some .local:=by first | exact .inl rfl | exact .inr rfl | assumption)(hf2:X.fn n2=true\/X.env.scope.names.lookup n2=some .local:=by first | exact .inl rfl | exact .inr rfl | assumption)(hs:autoParam (swapsWithSole [.Tuple [.Name n1 p1,.Name n2 p2] kt pt] (.Subscript (.Name x px) e ps) pos.line X.env=pure false) uR)(hw:autoParam (swappedStores [.Tuple [.Name n1 p1,.Name n2 p2] kt pt] (.Subscript (.Name x px) e ps) X.env=pure none) uR)(ha:autoParam ((assignEach [.Tuple [.Name n1 p1,.Name n2 p2] kt pt] X.env).map (·.2)=[assign (.Tuple [.Name n1 p1,.Name n2 p2] kt pt) X.env]) uR)(hn:autoParam ((assignEach [.Name n1 p1,.Name n2 p2] X.env).length=2) uR)(hst:autoParam ((assignEach [.Name n1 p1,.Name n2 p2] X.env).findIdx? (·.1)=none) uR)(hs1:autoParam ((assignEach [.Name n1 p1,.Name n2 p2] X.env).map (·.2)=assign (.Name n1 p1) X.env::(assignEach [.Name n2 p2] X.env).map (·.2)) uR)(hs2:autoParam ((assignEach [.Name n2 p2] X.env).map (·.2)=assign (.Name n2 p2) X.env::(assignEach [] X.env).map (·.2)) uR) :
 DS X c (.Assign [.Tuple [.Name n1 p1,.Name n2 p2] kt pt] (.Subscript (.Name x px) e ps) pos) (vy1 S tbl i j f):=by
 obtain⟨a0,hm,vs,fr,hl,ht⟩:=hm;refine(xd1 (vt7 wj0 (xr1 (v:=.ref a0) hg hm rfl hd) he hpi) (xq9 (n:=2) hc (zv9 (ym4 (i:=i) hN hi h1 hf1) (zv9 (ym4 (i:=j) hN hj h2 hf2) yy3 hs2) hs1) hn hst) hs hw ha).imp λD Y H hI121=>?_
 obtain⟨Z,st,R,ok,w⟩:=hI121;refine{Z,st,R,ok,za6 (za2.mp w) (λd st1 q v H1 e1 ok1 z=>?_) λx st1 q H' e ok'=>q H' (e.f0 R) ok'};split at q
 ·rename_i k
  split at q
  ·rename_i hk
   split at q
   ·rename_i p hp
    obtain⟨Z1,p1',q⟩:=za9.mp (za2.mp q);obtain⟨Z2,p2',q⟩:=za9.mp (za2.mp q);obtain⟨l1,rfl⟩:=zm3 p1';obtain⟨l2,rfl⟩:=zm3 p2';obtain⟨b,hb,frb⟩:=ht k.toNat p hp;have z':Is c.K (λb=>¬W.mv b) H1 (.int k) v:=z.toR;have R1:=(R.ext ok e1).setB l1 (show Is c.K (Av c Y Z) H1 (.int p.1) (.int p.1) from Is.int_iff.mpr rfl);have R2:=R1.setB l2 (show Is c.K _ H1 (.int p.2) (.int p.2) from Is.int_iff.mpr rfl);refine{a0,vs,k,.ref b,rfl,Is.int_iff.mp z',fr.sq,?_,b,[.int p.1,.int p.2],rfl,frb.sq,rfl,_,_,rfl,_,_,rfl,rfl,?_}
    ·have:=xa8 hb
     rwa [show ((k.toNat:Nat):Int)=k by omega] at this
    ·exact q _ _ ((Ext.frm e1).trans (ze8.trans ze8)) ok1 R2
   ·exact q.elim
  ·exact q.elim
 ·exact q.elim
instance vn2(d k x:D):Option D:=match d with
 | .dct (.non::ks) vs=>(zc0 k).bind λkk=>im (some ((vc1 kk ks vs).getD x))
 | _=>none
instance uh0(S:Type)(f1 f2 f3:Fn S):Fn S:=λZ st=>(f1 Z st).bind λd st1=>match d with
 | .dct (.non::ks) vs=>(f2 Z st1).bind λk st2=>(f3 Z st2).bind λx st3=>vd2 (vn2 (.dct (.non::ks) vs) k x) st3
 | _=>.bad
open H in
def vb0(hu:X.A.units+2<cLine)(ho:DE X c ga o fa)(he:DE X c gb e fb)(hf:DE X c gc f fc)(m:M2 X o "get" apos e f cpos):DE X c g (.Call (.Attribute o "get" apos) [e,f] [] cpos) (uh0 S fa fb fc):=
 (wd3 hu ho he hf m).imp λY H Q hI43=>by
  obtain⟨Z,st,R,ok,w⟩:=hI43;have w':=za2.mp w;refine{Z,st,R,ok,za6 w' (λd st1 q v H1 e1 ok1 z=>?_) λx st1 q=>q};split at q
  ·rename_i ks vs
   have z1:Is c.K (λb=>¬W.mv b) H1 (.dct (.non::ks) vs) v:=z.toR;obtain⟨a,us,ev,n,i1,hh⟩:=Is.dct_iff.mp z1;have isd:IsD H1 a:=by
    rcases hh with⟨kk,_,_,h⟩ | ⟨kk,_,_,h⟩
    ·exact .inl {_,.inl h}
    ·exact .inr {_,.inl h}
   refine{a,ev,isd,Z,st1,R.ext ok e1,ok1,za6 (za2.mp q) (λk st2 q v2 H2 e2 ok2 z2=>?_) λx st2 q H2 e2 ok2=>q H2 (e1.trans e2) ok2};have R2:=(R.ext ok e1).ext ok1 e2;refine{Z,st2,R2,ok2,za6 (za2.mp q) (λx st3 q v3 H3 e3 ok3 z3=>?_) λx st3 q H3 e3 ok3=>q H3 ((e1.trans e2).trans e3) ok3};obtain⟨dd,e4,q⟩:=za9.mp q;have et:=(e1.trans e2).trans e3;have R3:=R2.ext ok2 e3;have y1:Is c.K (λb=>¬W.mv b) H3 (.dct (.non::ks) vs) v:=(z1.ext e2 ok1 λ_ n=>n).ext e3 ok2 λ_ n=>n
   have y2:Is c.K (λb=>¬W.mv b) H3 k v2:=z2.toR.ext e3 ok2;have y3:Is c.K (λb=>¬W.mv b) H3 x v3:=z3.toR;cases hk:zc0 k with
   | none=>unfold vn2 at e4;rw[hk] at e4;cases e4
   | some kk=>
     have e4:im (some ((vc1 kk ks vs).getD x))=some dd:=by unfold vn2 at e4;rw[hk] at e4;exact e4
     obtain⟨e5,im5⟩:=yf1 e4;obtain⟨a',o',ea,gd,hcase⟩:=xg9 hk y2 y1;rw[ev] at ea;have ea:a=a':=by cases ea;rfl
     subst ea;refine{o',gd,q _ H3 et ok3 ?_};have y:Is c.K (λb=>¬W.mv b) H3 dd (o'.getD v3):=by
      rcases hcase with⟨h1,h2⟩ | ⟨d',v',h1,h2,h3⟩
      ·rw[h1] at e5;rw[h2]
       cases e5;exact y3
      ·rw[h1] at e5;rw[h2]
       cases e5;exact h3
     exact(New.val R3 (show New c H3 H3 dd _ from Is.ofImm im5 y) g).back et ok3
  ·exact q.elim
instance uf3:D->D->Option D
 | .lst l,.int k=>if D.immL l=true/\-(2 ^ 63)<=k/\k<2 ^ 63/\l.length*k.toNat<=sizeLine then some (.lst (List.replicate k.toNat l).flatten) else none
 | _,_=>none
theorem wh7{K:PySem.W.Frag}{A:Addr->Prop}{H:Hp}{l:List D}{vs:List V}(h:IsL K A H l vs):∀k:Nat,IsL K A H (List.replicate k l).flatten (List.replicate k vs).flatten
 | 0=>IsL.nil.mpr rfl
 | k+1=>by
   rw[Cb0,Cb0,Cj0,Cj0];exact h.append (wh7 h k)
theorem xf8(h:D.immL l=true):∀k:Nat,D.immL (List.replicate k l).flatten=true
 | 0=>rfl
 | k+1=>by
   rw[Cb0,Cj0];exact ze7 h (xf8 h k)
open H in
def ww8:OpD c ub1 uf3:=by
 intro d1 d2 v1 v2 H st d Q ok h1 h2 e q;unfold uf3 at e;split at e
 ·rename_i l k
  split at e
  ·rename_i hc
   cases e;obtain⟨a,us,ea,n,s1,i3⟩:=Is.lst_iff.mp h1;refine{a,k,us,ea,Is.int_iff.mp h2,s1,hc.2.1,hc.2.2.1,by rw[<-i3.length];exact hc.2.2.2,λp hp=>?_};exact q _ _ (Ext.laid hp) (zd9 ok hp) (New.lst ok hp (λ_ n=>n) (xf8 hc.1 _) (wh7 i3 _))
  ·cases e
 ·cases e
instance vu2(a b:D):Option D:=(iOp vo0 (λi j=>.int (i*j)) a b).or (uf3 a b)
def ym6:OpR X (binaryOp .Mult) (λx y H Q=>rI vo0 (λi j=>.int (i*j)) x y H Q\/ub1 x y H Q):=yd7.or ww3
def ym7:OpD c (λx y H Q=>rI vo0 (λi j=>.int (i*j)) x y H Q\/ub1 x y H Q) vu2:=vz1.or ww8
theorem wp_sTab2{Q:Fl->S->Prop}{i j:Nat}{f:Fn S}{tbl:List (Int×Int)}:wpR (vy1 S tbl i j f Z st) Q E↔wpR (f Z st) (λd st1=>∃k p,d=.int k/\0<=k/\tbl[k.toNat]?=some p/\∃Z1,put Z i (.int p.1)=some Z1/\∃Z2,put Z1 j (.int p.2)=some Z2/\Q (.nx Z2) st1) E:=wpB λd st1=>by
 cases d with
 | int k=>
   refine yz9 ?_;refine(xb6.trans ?_).trans exists_and_left.symm;refine and_congr Iff.rfl ?_;cases tbl[k.toNat]? with
   | none=>exact yf6
   | some p=>exact yf5 (yk9 λ_=>yl0)
 | _=>exact xx8 λb e=>by cases e
open H in
def wp_fGet{Q:D->S->Prop}{f1 f2' f3:Fn S}:wpR (uh0 S f1 f2' f3 Z st) Q E↔wpR (f1 Z st) (λd st1=>∃ks vs,d=.dct (.non::ks) vs/\wpR (f2' Z st1) (λk st2=>wpR (f3 Z st2) (λx st3=>wpR (vd2 (vn2 (.dct (.non::ks) vs) k x) st3) Q E) E) E) E:=by
 unfold uh0;rw[za2];refine iff_of_eq (congrArg (λz=>wpR (f1 Z st) z E) (funext λd=>funext λst1=>propext ?_));by_cases hd:∃ks vs,d=.dct (.non::ks) vs
 ·obtain⟨ks,vs,rfl⟩:=hd
  show wpR ((f2' Z st1).bind λk st2=>(f3 Z st2).bind λx st3=>vd2 (vn2 (.dct (.non::ks) vs) k x) st3) Q E↔_;rw[za2];simp only[za2];exact{λq=>⟨ks,vs,rfl,q⟩,λ⟨ks',vs',e,q⟩=>by cases e;exact q}
 ·constructor
  ·intro q
   split at q
   ·rename_i ks vs
    exact absurd ⟨ks,vs,rfl⟩ hd
   ·exact q.elim
  ·rintro ⟨ks,vs,rfl,_⟩
   exact absurd ⟨ks,vs,rfl⟩ hd
end
theorem wb9{K:PySem.W.Frag}{a b0 b1 b2 b3:Addr}{p0 p1 p2 p3:Int×Int}{od od0 od1 od2 od3:Option Addr}{sl sl0 sl1 sl2 sl3:Array (Option Value)}{n n0 n1 n2 n3:Nat}{t0 t1 t2 t3 u0 u1 u2 u3:Tok}(h:K.lookup a=some {.type "tuple",od,.seq #[.ref b0,.ref b1,.ref b2,.ref b3] n,sl})(h0:K.lookup b0=some {.type "tuple",od0,.seq #[.int p0.1 t0,.int p0.2 u0] n0,sl0})(h1:K.lookup b1=some {.type "tuple",od1,.seq #[.int p1.1 t1,.int p1.2 u1] n1,sl1})(h2:K.lookup b2=some {.type "tuple",od2,.seq #[.int p2.1 t2,.int p2.2 u2] n2,sl2})(h3:K.lookup b3=some {.type "tuple",od3,.seq #[.int p3.1 t3,.int p3.2 u3] n3,sl3}):ui4 K a [p0,p1,p2,p3]:=by
 have pr:∀{b:Addr} {p:Int×Int} {od:Option Addr} {sl:Array (Option Value)} {n:Nat} {t u:Tok},K.lookup b=some ⟨.type "tuple",od,.seq #[.int p.1 t,.int p.2 u] n,sl⟩->FrT K b [.int p.1,.int p.2]:=λ{b p od sl n t u} h=>
  {_,_,_,h,rfl,rfl,by show 2<=sizeLine;decide,.cons ⟨t,rfl⟩ (.cons ⟨u,rfl⟩ .nil)}
 refine{[.ref b0,.ref b1,.ref b2,.ref b3],{_,_,_,h,rfl,rfl,by show 4<=sizeLine;decide,.cons rfl (.cons rfl (.cons rfl (.cons rfl .nil)))},rfl,λi p hp=>?_}
 match i,hp with
 | 0,hp=>cases hp;exact{b0,rfl,pr h0}
 | 1,hp=>cases hp;exact{b1,rfl,pr h1}
 | 2,hp=>cases hp;exact{b2,rfl,pr h2}
 | 3,hp=>cases hp;exact{b3,rfl,pr h3}
 | i+4,hp=>simp at hp
end L2
namespace PySem
def wq4{T nid:String}(hl:typeLookup (.type T) "__init__" = pure (some (.builtin "object.__init__")))(hm:Bind.madeBy (.type T)=pure (some nid))(hne:(some nid != some "object.__new__")=true):Meets (Builtin.«object.__init__» {me::more,kw}) (λ_ R s=>s.TypeIs me T/\R (.ok (.ret .none)) s):=
 .of_wp λprog w A R s hs=>by
  obtain⟨hT,hq⟩:=hs;cases more with
  | nil=>
    cases kw with
    | nil=>exact Ac1 {_,rfl,hq}
    | cons=>
      repeat (any_goals (first | assumption | wp_step))
      exact{_,rfl,hq}
  | cons=>
    repeat (any_goals (first | assumption | wp_step))
    exact{_,rfl,hq}
theorem wg4{T nid:String}(ft:TypeCalled T nid "object.__init__")(hne:(some nid != some "object.__new__")=true)(hct:checkTypeCall T ⟨vs,kw⟩=pure ())(hcn:checkBuiltinCall nid {.type T::vs,kw}=pure ())(hok:∀x,argsOk "object.__init__" {x::vs,kw})(eN:entryFor table nid=some B)(g:Meets (B {.type T::vs,kw}) S)(h:S A.in1 (wants (λx s1=>s1.TypeIs x T/\Q x s1) E) s):wpAny 'r' A (call (.type T) vs kw) Q E s:=by
 obtain⟨c,tl,hmro⟩:=ft.mro;have hmade:=ft.made;have hsub:=ft.sub;refine wpAny_call (codeAny_of_tree (Ac1 {Code.quiet_builtin _ (by decide +kernel),codeAny_builtin F.entry_type_call ?_}));rw[Around.under_plain (weight_type_call_type T vs kw) (units_type_call_type T vs kw)];have h1:=ft.notType;have h2:=ft.canCreate;repeat (any_goals (first | assumption | wp_step))
 refine codeAny_mono (codeAny_call_builtin ft.plain eN (wpAny_of_eq hcn (g prog w A.in1 _ s h))) λr s1 hr=>?_
 cases r with
 | error e=>exact hr
 | ok fl=>
   cases fl with
   | ret x=>
     have hT:s1.TypeIs x T:=hr.1;have hli:=ft.init.lookup;have hbi:=ft.init.bind x;repeat (any_goals (first | assumption | wp_step))
     refine codeAny_mono (codeAny_call_builtin ft.init.plain F.entry_object_init (ft.init.check _ _ _ _ _ _ _ _ hr.1 (hok x) (wq4 ft.init.lookup ft.made hne prog w A.in1 (wants (λr s2=>r=.none/\Q x s2) E) s1 ⟨hr.1,rfl,hr.2⟩))) λr2 s2 hr2=>?_
     cases r2 with
     | error e=>exact hr2
     | ok f2=>
       cases f2 with
       | ret r=>
         obtain⟨rfl,hq⟩:=hr2;repeat (any_goals (first | assumption | wp_step))
       | _=>exact hr2.elim
   | _=>exact hr.elim
open H in
def ye5(l:Addr)(t:Tok)(items:Array Value)(n:Nat)(dct:Option Addr)(sl:Array (Option Value)) :
 Meets (Builtin.«enumerate.__new__» {[.type "enumerate",.ref l],[("start",.int 1 t)]}) (λ_ R s=>s.heap.get? l=some { cls:=.type "list",dict:=dct,data:=.seq items n,slots:=sl }/\
  R (.ok (.ret (.ref (s.heap.push { cls:=.type "list_iterator",data:=.fields #[.ref l,.int 0 0] }).objs.size)))
    { s with heap:=(s.heap.push { cls:=.type "list_iterator",data:=.fields #[.ref l,.int 0 0] }).push { cls:=.type "enumerate",data:=.fields #[.none,.bool false,.ref s.heap.objs.size,rawInt 1,.none,.none] } }):=
 .of_wp λprog w A R s h=>by
  obtain⟨hp,g,d,tk,os⟩:=s;obtain⟨hl,h⟩:=h;have hsub:=sub_enumerate;have hL:Heap.IsList (Shared.heap ⟨hp,g,d,tk,os⟩) l items:={_,hl,rfl,n,rfl}
  wp_walk using AutoSeq1.wpAny_loadPart' hl
  refine wpAny_stack_any λst=>Ac1 ?_
  split
  ·rename_i c _ _ _ _ _
   cases (c == Value.type "enumerate")<;>(wp_walk using AutoSeq1.wpAny_loadPart' hl,wpAny_pyIter_list hL;exact{_,rfl,h})
  ·(wp_walk using AutoSeq1.wpAny_loadPart' hl,wpAny_pyIter_list hL;exact{_,rfl,h})
def wm1(a v:Value):checkTypeCall "enumerate" {[a],[("start",v)]}=pure ():=by kernel_rfl
def wp0(a v:Value):checkBuiltinCall "enumerate.__new__" {[.type "enumerate",a],[("start",v)]}=pure ():=by kernel_rfl
def ys6(x a v:Value):argsOk "object.__init__" {[x,a],[("start",v)]}:=by kernel_rfl
def xm1(hL:s.heap.IsList l items)(h:∀h',IsEnum h' (s.heap.objs.size+1) s.heap.objs.size 1 .none->h'.IsListIter s.heap.objs.size l 0->(∀b o,s.heap.get? b=some o->h'.get? b=some o)->Q (.ref (s.heap.objs.size+1)) { s with heap:=h' }) :
 wpAny 'r' A (call (.type "enumerate") [.ref l] [("start",.int 1 t)]) Q E s:=by
 obtain⟨⟨c,dct,dt,sl⟩,hl,hc,n,hd⟩:=hL;have hc:c=.type "list":=hc;have hd:dt=.seq items n:=hd;subst hc hd;refine wg4 F.called_enumerate 'z' (wm1 _ _) (wp0 _ _) (λx=>ys6 x _ _) F.entry_enumerate_new (ye5 l t items n dct sl) {hl,?_};generalize hg:s.heap.push { cls:=.type "list_iterator",data:=.fields #[.ref l,.int 0 0] }=g;have hz:g.objs.size=s.heap.objs.size+1:=by rw[<-hg];exact Bs0 ..
 have he:IsEnum (g.push { cls:=.type "enumerate",data:=.fields #[.none,.bool false,.ref s.heap.objs.size,rawInt 1,.none,.none] }) (s.heap.objs.size+1) s.heap.objs.size 1 .none:=by
  have:=Ag0 g (o:={ cls:=.type "enumerate",data:=.fields #[.none,.bool false,.ref s.heap.objs.size,rawInt 1,.none,.none] }) rfl;rw[hz] at this;exact this
 have hi:g.get? s.heap.objs.size=some { cls:=.type "list_iterator",data:=.fields #[.ref l,.int 0 0] }:=by rw[<-hg];exact Ag0 _ rfl
 show _/\_;rw[hz];exact{{_,he,rfl},h _ he {_,Ab0 _ hi,rfl,rfl} λb o x=>Ab0 _ (by rw[<-hg];exact Ab0 _ x)}
end PySem
namespace L2
def xw8{P:Program}{w:World}{K:PySem.W.Frag}(a it:Addr):vw6 P w K (λH xs=>Rd H a (.lst xs)) (λi h=>h.IsListIter it a i) it where
 obj:=λ⟨o,ho,_,d⟩=>{o,ho,λv z=>by rw[d] at z;cases z}
 keep:=λt q=>t.at q
 inj:=λ_ I h1 h2=>I.list_inj (.inl h1) (.inl h2)
 item:=λ_ I hq hx hi=>by
  obtain⟨its,rv,p,_⟩:=I.list (.inl hq);obtain⟨u,hu,ru⟩:=rv.get hx;exact{u,ru,λA E Q hQ=>wpAny_nextOf_list_item hi p.isList (by simpa using hu) hQ}
 done:=λ_ I hq hx hi A E Q hh h=>by
  obtain⟨its,rv,p,_⟩:=I.list (.inl hq);have hl:=rv.length;exact wpAny_nextOf_list_end hh hi p.isList (by simp;omega) h
open H in
def yi0{P:Program}{w:World}{K:PySem.W.Frag}{elts:List Expr}{x1}{pos:Pos}(b:Nat)(a e it:Addr):vr8 P w K (.Tuple elts x1 pos) (ua7 b λH xs=>Rd H a (.lst xs)) [e,it] e (λi h=>e≠it/\(∃old,IsEnum h e it (i+b:Nat) old)/\h.IsListIter it a i):=yi1 (xw8 a it)
def yp9{pos:Pos}{T:String}{e:Expr}{rest:List Expr}{kws:List Keyword}{Q:Value->Shared->Prop}(h:wpAny M A (spliced (backTo pos (starEach (e::rest) env))) (λvs s1=>wpAny M A (evalAll ((backToKw pos (keywordEach kws env)).map (·.2)))
  (λks s2=>wpAny M A (call (.type T) vs (((backToKw pos (keywordEach kws env)).filterMap (·.1)).zip ks)) Q E s2) E s1) E s)(he:autoParam (backTo pos (starEach (e::rest) env)=(false,eval e env)::backTo pos (starEach rest env)) uR)(hp:autoParam ((backTo pos (starEach (e::rest) env)).any (·.1)=false) uR)(ha:autoParam ((backToKw pos (keywordEach kws env)).all (·.1.isSome)=true) uR)(hk:autoParam ((backToKw pos (keywordEach kws env)).any (·.1.isNone)=false) uR) :
 wpAny M A (callWith pos (.type T) [] (backTo pos (starEach (e::rest) env)) (backToKw pos (keywordEach kws env))) Q E s:=by
 unfold callWith;have h':wpAny M A (evalArgs (.type T) true (backTo pos (starEach (e::rest) env)) (backToKw pos (keywordEach kws env))) (λa s1=>wpAny M A (call (.type T) ([]++a.pos) a.kw) Q E s1) E s:=by
  rw[he] at h ⊢;exact evalArgs_kwB ha h
 refine Aa1 (wpAny_holding (Ah1 h' (λa s1 h1=>Aa1 (wpAny_standAt ?_)) λ_ _ x=>x));simp only[hp,hk,Bool.or_false];refine Aa1 (Ac1 ?_);exact Aa1 (Ah1 h1 (λr s2 hr=>Aa1 (wpAny_holding (wpAny_point (Ac1 hr)))) λ_ _ x=>x)
section
variable{x1:Nat}{S:Type}{i:Nat}
instance ug2(b:Nat)(ta:TA):TI:=λY H R=>ta Y H λvs H1=>∃a xs,vs=[.ref a]/\Rd H1 a (.lst xs)/\R (ua7 b λH xs=>Rd H a (.lst xs)) H1
theorem wc9(hg:Gl X "enumerate")(hm:X.mg "enumerate" = none)(ha:PA X [a] ta)(hs:autoParam (starEach [a] X.env=[(false,eval a X.env)]) uR):PI X (.Tuple elts x1 tpos) (.Call (.Name "enumerate" p) [a] [] pos) (ug2 0 ta):=by
 intro A3 s Y H R I h;refine Call_ (zz8 I hg hm boot_enumerate (PyProof.Rows.callWith_type1 (thn (ha pos A3 s Y H _ I h) λus s1 hI122=>?_) hs rfl));obtain⟨vs,H1,I1,r1,q1⟩:=hI122;obtain⟨l,xs,rfl,hq,q⟩:=q1;cases r1 with
 | cons r rr=>
   cases rr;cases r;obtain⟨its,rv,pt,hz⟩:=I1.list (.inl hq);refine call_enumerate_list pt.isList λh' he hi _ kk=>?_
   refine wpAny_pyIter_enum (s:={ s1 with heap:=h' }) he ?_;refine{s1.heap.objs.size+1,[s1.heap.objs.size+1,s1.heap.objs.size],_,_,H1,rfl,I1.kept (t':=s1.toks) kk,yi0 0 l _ _,{Nat.succ_ne_self _,{_,he},hi},λb hb=>?_,q};have hb:s1.heap.objs.size<=b:=by
    rcases Aj0.mp hb with z | z
    ·rw[z];exact Nat.le_succ _
    ·exact Cr0 (Al0.mp z).symm
   exact I1.fpOk hb (I1.hok.fresh hb)
theorem wd0{a:Expr}{ta:TA}{p pos kp cp:Pos}{j}(hg:Gl X "enumerate")(hm:X.mg "enumerate" = none)(ha:PA X [a] ta)(hs:autoParam (starEach [a] X.env=[(false,eval a X.env)]) uR):PI X (.Tuple elts x1 tpos) (.Call (.Name "enumerate" p) [a] [{some "start",.Constant (.int 1) j cp,kp}] pos) (ug2 1 ta):=by
 intro A3 s Y H R I h;show wpAny _ _ (do callWith pos (<-eval (.Name "enumerate" p) X.env) [] (backTo pos (starEach [a] X.env)) (backToKw pos (keywordEach [⟨some "start",.Constant (.int 1) j cp,kp⟩] X.env))) _ _ _;refine Aa1 (zz8 I hg hm boot_enumerate (yp9 (thn (ha pos A3 s Y H _ I h) λus s1 ⟨vs,H1,I1,r1,q1⟩=>kws_cons (thn (zi4 A3 s1 Y H1 (λv H'=>v=.int 1/\H'=H1) I1 ⟨rfl,rfl⟩) λu s2 ⟨v,H2,I2,r2,q2⟩=>kws_nil ?_)) (by rw[hs];rfl) (by rw[hs];rfl)));obtain⟨rfl,rfl⟩:=q2;obtain⟨t,rfl⟩:=r2;obtain⟨l,xs,rfl,hq,q⟩:=q1;cases r1 with
 | cons r rr=>
   cases rr;cases r;obtain⟨its,rv,pt,hz⟩:=I2.list (.inl hq);refine xm1 (t:=t) pt.isList λh' he hi kk=>?_
   refine wpAny_pyIter_enum (s:={ s2 with heap:=h' }) he ?_;refine{s2.heap.objs.size+1,[s2.heap.objs.size+1,s2.heap.objs.size],_,_,H2,rfl,I2.kept (t':=s2.toks) kk,yi0 1 l _ _,{Nat.succ_ne_self _,{_,he},hi},λb hb=>?_,q};have hb:s2.heap.objs.size<=b:=by
    rcases Aj0.mp hb with z | z
    ·rw[z];exact Nat.le_succ _
    ·exact Cr0 (Al0.mp z).symm
   exact I2.fpOk hb (I2.hok.fresh hb)
instance yj1(b:Nat):List D->Option (List D)
 | [.lst l]=>some (vo3 b l)
 | [.fl l]=>some (vo3 b l)
 | _=>none
open H in
def xg8{b:Nat}(h:∀ta,PA X [a] ta->PI X (.Tuple elts x1 tpos) e (ug2 b ta))(ha:DB X c [a] f):DI X c (.Tuple elts x1 tpos) e (vk8 S (yj1 b) f):=
 (h _ ha).imp λY H R hI44=>by
  obtain⟨Z,st,R0,ok,w⟩:=hI44;refine{Z,st,R0,ok,za6 (za2.mp w) (λl st1 q vs H1 e ok1 z=>?_) λx st1 q=>q};obtain⟨m,e1,q⟩:=za9.mp q;unfold yj1 at e1;split at e1
  ·rename_i l
   cases e1;obtain⟨v,r,e2,i2,i3⟩:=IsL.cons.mp z;obtain⟨a,xs,ea,s0,i,k0⟩:=Is.asL i2 rfl;rw[IsL.nil.mp i3,ea] at e2;exact{a,xs,e2,s0,q _ H1 e ok1 (yf8 k0 i)}
  ·rename_i l
   cases e1;obtain⟨v,r,e2,i2,i3⟩:=IsL.cons.mp z;obtain⟨a,xs,ea,s0,i,k0⟩:=Is.asL i2 rfl;rw[IsL.nil.mp i3,ea] at e2;exact{a,xs,e2,s0,q _ H1 e ok1 (yf8 k0 i)}
  ·cases e1
def wf7(hg:Gl X "enumerate")(hm:X.mg "enumerate" = none)(ha:DB X c [a] f)(hs:autoParam (starEach [a] X.env=[(false,eval a X.env)]) uR):DI X c (.Tuple elts x1 tpos) (.Call (.Name "enumerate" p) [a] [] pos) (vk8 S (yj1 0) f):=
 xg8 (λ_ h=>wc9 hg hm h hs) ha
def wf8{a:Expr}{f:FnA S}{p pos kp cp:Pos}{j}(hg:Gl X "enumerate")(hm:X.mg "enumerate" = none)(ha:DB X c [a] f)(hs:autoParam (starEach [a] X.env=[(false,eval a X.env)]) uR):DI X c (.Tuple elts x1 tpos) (.Call (.Name "enumerate" p) [a] [{some "start",.Constant (.int 1) j cp,kp}] pos) (vk8 S (yj1 1) f):=
 xg8 (λ_ h=>wd0 hg hm h hs) ha
end
section
variable{X:Cx}{S:Type}{W:Wd S}{c:Dx W}{g ga gb gc:Gr}{H1:Hp}{Y:St}{Z:Rho}{st1:S}{A:Addr->Prop}
end
section
variable{X:Cx}{S:Type}{W:Wd S}{c:Dx W}{i:Nat}
section
variable{Q:Fl->S->Prop}{E:Exn->S->Prop}{Z:Rho}{st:S}
end
end
end L2
namespace PySem
end PySem
namespace L2
section
variable{x1:Nat}{S:Type}{X:Cx}{W:Wd S}{c:Dx W}{g ga:Gr}{H:Hp}{st:S}
end
end L2
namespace Ts
open PySem PyProof.Rows
section
variable{prog:Program}{w:World}{A:Around}{E:Value->Shared->Prop}{s:Shared}{L:KeyKind}{knd:SortKind}
instance Cmp(prog:Program)(w:World)(A:Around)(E:Value->Shared->Prop)(s:Shared)(L:KeyKind)(knd:SortKind):Prop:=
 ∀(st:SortSt) (x y:Keyed) (a b:L.α) (Q:Option Bool->SortSt->Prop),kindOf st=knd->L.keyOf x.1=some a->L.keyOf y.1=some b->Q (some (L.blt a b)) st->wpS 'r' A E s (lt' x y) Q st
instance ky(L:KeyKind)(x:Keyed):L.α:=(L.keyOf x.1).getD L.dflt
structure Bs(a₀:Array Keyed)(knd:SortKind)(P:Array (Nat×Nat×Nat))(st:SortSt):Prop where
 perm:(arrOf st).Perm a₀
 kind:kindOf st=knd
 fail:failedOf st=none
 pend:pendingOf st=P
variable{st:SortSt}
def Bs.size(B:Bs a₀ knd P st):(arrOf st).size=a₀.size:=B.perm.size_eq
def Bs.arr(B:Bs a₀ knd P st){xs:Array Keyed}(h:xs.Perm (arrOf st)):Bs a₀ knd P (setArr st xs):={h.trans B.perm,B.kind,B.fail,B.pend}
def Bs.at(B:Bs a₀ knd P st)(h0:KeysOf L a₀){i:Nat}(hi:i<a₀.size):∃x a,(arrOf st)[i]?=some x/\L.keyOf x.1=some a/\KK L (arrOf st) i=a:=by
 have hi':i<(arrOf st).size:=by rw[B.size];exact hi
 have hm:(arrOf st)[i]∈a₀.toList:=(Array.perm_iff_toList_perm.mp B.perm).mem_iff.mp (Array.getElem_mem_toList hi');obtain⟨a,ha⟩:=h0 _ hm;have e:(arrOf st)[i]?=some (arrOf st)[i]:=Bc0 hi';refine{_,a,e,ha,?_};unfold KK;rw[e];show (L.keyOf (arrOf st)[i].1).getD L.dflt=a;rw[ha];rfl
def yc6(C:Cmp prog w A E s L knd)(h0:KeysOf L a₀)(B:Bs a₀ knd P st){i j:Nat}(hi:i<a₀.size)(hj:j<a₀.size){Q:Option Bool->SortSt->Prop}(h:Q (some (L.blt (KK L (arrOf st) i) (KK L (arrOf st) j))) st):wpS 'r' A E s (ltAt' i j) Q st:=by
 obtain⟨x,a,e1,k1,r1⟩:=B.at h0 hi;obtain⟨y,b,e2,k2,r2⟩:=B.at h0 hj;rw[ltAt'_eq];refine Ab1 (wpS_get ?_);show wpS _ _ _ _ (elem' (arrOf st) i >>= λx=>elem' (arrOf st) j >>= λy=>lt' x y) Q st;rw[elem'_eq,elem'_eq,e1,e2];refine Ab1 (Ad1 (Ab1 (Ad1 (C st x y a b Q B.kind k1 k2 ?_))));rw[<-r1,<-r2];exact h
instance Up(L:KeyKind)(xs:Array Keyed)(lo hi:Nat):Prop:=∀i j,lo<=i->i<=j->j<hi->L.kle (KK L xs i) (KK L xs j)
instance Dn(L:KeyKind)(xs:Array Keyed)(lo hi:Nat):Prop:=∀i j,lo<=i->i<=j->j<hi->L.kle (KK L xs j) (KK L xs i)
def Up.one{xs:Array Keyed}{lo hi:Nat}(h:hi<=lo+1):Up L xs lo hi:=λi j h1 h2 h3=>by
 have:i=j:=by omega
 subst this;exact KeyOrd.kle_refl _
def Up.snoc{xs:Array Keyed}{lo n:Nat}(h:Up L xs lo (lo+n))(h1:1<=n)(hl:L.kle (KK L xs (lo+n-1)) (KK L xs (lo+n))):Up L xs lo (lo+(n+1)):=λi j g1 g2 g3=>by
 by_cases hj:j<lo+n
 ·exact h i j g1 g2 hj
 ·have:j=lo+n:=by omega
  subst this;by_cases hi:i=lo+n
  ·subst hi;exact KeyOrd.kle_refl _
  ·exact KeyOrd.kle_trans (h i (lo+n-1) g1 'o' 'o') hl
def Dn.snoc{xs:Array Keyed}{lo n:Nat}(h:Dn L xs lo (lo+n))(h1:1<=n)(hl:L.kle (KK L xs (lo+n)) (KK L xs (lo+n-1))):Dn L xs lo (lo+(n+1)):=λi j g1 g2 g3=>by
 by_cases hj:j<lo+n
 ·exact h i j g1 g2 hj
 ·have:j=lo+n:=by omega
  subst this;by_cases hi:i=lo+n
  ·subst hi;exact KeyOrd.kle_refl _
  ·exact KeyOrd.kle_trans hl (h i (lo+n-1) g1 'o' 'o')
instance Out(xs ys:Array Keyed)(lo hi:Nat):Prop:=∀i,(i<lo\/hi<=i)->ys[i]?=xs[i]?
def wa8{xs:Array Keyed}{i j k:Nat}(hj:j<=xs.size):KK L (mirror xs i j ((j-i) / 2)) k=if i<=k/\k<j then KK L xs (i+j-1-k) else KK L xs k:=KK_mirror hj k
def wg8(C:Cmp prog w A E s L knd)(h0:KeysOf L a₀)(B:Bs a₀ knd P st){lo B7 a:Nat}(hl:lo+B7<=a₀.size)(ha:1<=a)(han:a<=B7)(hu:Up L (arrOf st) lo (lo+a)){Q:Option (Option Nat)×Nat->SortSt->Prop}(h:∀n,a<=n->n<=B7->Up L (arrOf st) lo (lo+n)->(n=B7\/L.blt (KK L (arrOf st) (lo+n)) (KK L (arrOf st) (lo+n-1))=true)->Q (none,n) st) :
 wpS 'r' A E s (forIn [a:B7] ((none,a):Option (Option Nat)×Nat) λ_ r=>do
  let x <-ltAt' (lo+r.2) (lo+r.2-1)
  match x with
  | some smaller=>if smaller=true then pure (ForInStep.done (none,r.2)) else pure (ForInStep.yield (none,r.2+1))
  | _=>pure (ForInStep.done (some none,r.2))) Q st:=by
 refine Af1 (I:=λx c st'=>st'=st/\c=(none,x)/\Up L (arrOf st) lo (lo+x)) (λi c st' h1 h2 hI124=>?_) (λc st' hI123=>?_) ⟨rfl,rfl,hu⟩
 ·obtain⟨e1,e2,hu⟩:=hI124
  subst e1 e2;refine Ab1 (yc6 C h0 B 'o' 'o' ?_);show wpS _ _ _ _ (if L.blt (KK L (arrOf st') (lo+i)) (KK L (arrOf st') (lo+i-1))=true then _ else _) _ _;cases hb:L.blt (KK L (arrOf st') (lo+i)) (KK L (arrOf st') (lo+i-1))
  ·rw[if_neg Aq0]
   exact Ad1 {rfl,rfl,hu.snoc 'o' hb}
  ·rw[if_pos rfl]
   exact Ad1 (h i h1 'o' hu (.inr hb))
 ·obtain⟨e1,e2,hu⟩:=hI123
  subst e1 e2;have e:max a B7=B7:=by omega
  rw[e] at hu ⊢;exact h B7 han (Ae0 _) hu (.inl rfl)
def Out.refl{xs:Array Keyed}{lo hi:Nat}:Out xs xs lo hi:=λ_ _=>rfl
def Out.trans{xs ys zs:Array Keyed}{lo hi:Nat}(a:Out xs ys lo hi)(b:Out ys zs lo hi):Out xs zs lo hi:=λi h=>(b i h).trans (a i h)
def Out.mir{xs:Array Keyed}{lo hi p q:Nat}(hq:q<=xs.size)(h1:lo<=p)(h2:q<=hi):Out xs (mirror xs p q ((q-p) / 2)) lo hi:=λi h=>by
 rw[getElem?_mirror_all hq,if_neg 'o']
def xb0{xs:Array Keyed}{p q:Nat}{c:L.α}(hq:q<=xs.size)(h:∀i,p<=i->i<q->KK L xs i=c)(k:Nat):KK L (mirror xs p q ((q-p) / 2)) k=KK L xs k:=by
 rw[wa8 hq];by_cases hk:p<=k/\k<q
 ·rw[if_pos hk,h k hk.1 hk.2,h _ 'o' 'o']
 ·rw[if_neg hk]
def Dn.turn{xs:Array Keyed}{lo n:Nat}(hq:lo+n<=xs.size)(h:Dn L xs lo (lo+n)):Up L (mirror xs lo (lo+n) ((lo+n-lo) / 2)) lo (lo+n):=λi j g1 g2 g3=>by
 rw[wa8 hq,wa8 hq,if_pos {g1,'o'},if_pos {'o',g3}];exact h _ _ 'o' 'o' 'o'
def Dn.congr{xs ys:Array Keyed}{lo hi:Nat}(h:Dn L xs lo hi)(e:∀k,KK L ys k=KK L xs k):Dn L ys lo hi:=λi j g1 g2 g3=>by rw[e i,e j];exact h i j g1 g2 g3
def xm4(C:Cmp prog w A E s L knd)(h0:KeysOf L a₀)(B:Bs a₀ knd P st){lo B7 n:Nat}(hl:lo+B7<=a₀.size)(h1:1<=n)(hn:n<=B7)(hd:Dn L (arrOf st) lo (lo+n)){Q:Option Nat->SortSt->Prop}(h:∀m st',Bs a₀ knd P st'->1<=m->m<=B7->Up L (arrOf st') lo (lo+m)->Out (arrOf st) (arrOf st') lo (lo+B7)->Q (some m) st') :
 wpS 'r' A E s (do
  reverseSlice' lo (lo+n)
  let r <-forIn [n:B7] ((none,n):Option (Option Nat)×Nat) λ_ r=>do
   let x <-ltAt' (lo+r.2) (lo+r.2-1)
   match x with
   | some smaller=>if smaller=true then pure (ForInStep.done (none,r.2)) else pure (ForInStep.yield (none,r.2+1))
   | _=>pure (ForInStep.done (some none,r.2))
  match r.1 with
  | some r=>pure r
  | none=>pure (some r.2)) Q st:=by
 have hz:lo+n<=(arrOf st).size:=by rw[B.size];omega
 rw[reverseSlice'_eq];refine Ab1 (Am1 (Ab1 (wg8 C h0 (B.arr (mirror_perm _ _ _ _)) hl h1 hn (Dn.turn hz hd) λm g1 g2 g3 _=>?_)));exact Ad1 (h m _ (B.arr (mirror_perm _ _ _ _)) 'o' g2 g3 (Out.mir hz (Ae0 _) 'o'))
def xn1(C:Cmp prog w A E s L knd)(h0:KeysOf L a₀)(B:Bs a₀ knd P st){lo B7 n:Nat}(hl:lo+B7<=a₀.size)(h1:1<=n)(hn:n<=B7)(hd:Dn L (arrOf st) lo (lo+n)){Q:Option Nat->SortSt->Prop}(h:∀m st',Bs a₀ knd P st'->1<=m->m<=B7->Up L (arrOf st') lo (lo+m)->Out (arrOf st) (arrOf st') lo (lo+B7)->Q (some m) st') :
 wpS 'r' A E s (do
  liftM (rule "list.sort.descending-run")
  let r <-forIn [n:B7] ((none,n,0):Option (Option Nat)×Nat×Nat) λ_ r=>do
   let x <-ltAt' (lo+r.2.1) (lo+r.2.1-1)
   match x with
   | some smaller=>
     if smaller=true then
      if r.2.2>0 then do
       reverseSlice' (lo+r.2.1-(r.2.2+1)) (lo+r.2.1)
       pure (ForInStep.yield (none,r.2.1+1,0))
      else pure (ForInStep.yield (none,r.2.1+1,0))
     else do
      let x <-ltAt' (lo+r.2.1-1) (lo+r.2.1)
      match x with
      | some larger=>if larger=true then pure (ForInStep.done (none,r.2.1,r.2.2)) else pure (ForInStep.yield (none,r.2.1+1,r.2.2+1))
      | _=>pure (ForInStep.done (some none,r.2.1,r.2.2))
   | _=>pure (ForInStep.done (some none,r.2.1,r.2.2))
  match r.1 with
  | some r=>pure r
  | none=>
    if r.2.2>0 then do
     reverseSlice' (lo+r.2.1-(r.2.2+1)) (lo+r.2.1)
     reverseSlice' lo (lo+r.2.1)
     let r <-forIn [r.2.1:B7] ((none,r.2.1):Option (Option Nat)×Nat) λ_ r=>do
      let x <-ltAt' (lo+r.2) (lo+r.2-1)
      match x with
      | some smaller=>if smaller=true then pure (ForInStep.done (none,r.2)) else pure (ForInStep.yield (none,r.2+1))
      | _=>pure (ForInStep.done (some none,r.2))
     match r.1 with
     | some r=>pure r
     | none=>pure (some r.2)
    else do
     reverseSlice' lo (lo+r.2.1)
     let r <-forIn [r.2.1:B7] ((none,r.2.1):Option (Option Nat)×Nat) λ_ r=>do
      let x <-ltAt' (lo+r.2) (lo+r.2-1)
      match x with
      | some smaller=>if smaller=true then pure (ForInStep.done (none,r.2)) else pure (ForInStep.yield (none,r.2+1))
      | _=>pure (ForInStep.done (some none,r.2))
     match r.1 with
     | some r=>pure r
     | none=>pure (some r.2)) Q st:=by
 refine Ab1 (wpS_lift (Aj1 {rfl,?_}));refine Ab1 (Al1 (Af1 (I:=λx c st'=>∃q,c=(none,x,q)/\Bs a₀ knd P st'/\x<=B7/\Dn L (arrOf st') lo (lo+x)/\q+1<=x/\(∀i,lo+x-(q+1)<=i->i<lo+x->KK L (arrOf st') i=KK L (arrOf st') (lo+x-1))/\Out (arrOf st) (arrOf st') lo (lo+B7)) (Q:=λc st'=>∃x q,c=(none,x,q)/\1<=x/\Bs a₀ knd P st'/\x<=B7/\Dn L (arrOf st') lo (lo+x)/\q+1<=x/\(∀i,lo+x-(q+1)<=i->i<lo+x->KK L (arrOf st') i=KK L (arrOf st') (lo+x-1))/\Out (arrOf st) (arrOf st') lo (lo+B7))
  (λx c st' hx1 hx2 hI=>?_) (λc st' hI=>?_) {0,rfl,B,hn,hd,h1,λi g1 g2=>by rw[show i=lo+n-1 by omega],Out.refl}) λc st' hI=>?_)
 ·obtain⟨q,e,B',hxn,hd',hq,he,ho⟩:=hI
  subst e;have hz:lo+x<=(arrOf st').size:=by rw[B'.size];omega
  refine Ab1 (yc6 C h0 B' (i:=lo+x) (j:=lo+x-1) 'o' 'o' ?_);show wpS _ _ _ _ (if L.blt (KK L (arrOf st') (lo+x)) (KK L (arrOf st') (lo+x-1))=true then _ else _) _ _;cases hb:L.blt (KK L (arrOf st') (lo+x)) (KK L (arrOf st') (lo+x-1))
  ·rw[if_neg Aq0]
   refine Ab1 (yc6 C h0 B' (i:=lo+x-1) (j:=lo+x) 'o' 'o' ?_);show wpS _ _ _ _ (if L.blt (KK L (arrOf st') (lo+x-1)) (KK L (arrOf st') (lo+x))=true then _ else _) _ _;cases hb2:L.blt (KK L (arrOf st') (lo+x-1)) (KK L (arrOf st') (lo+x))
   ·rw[if_neg Aq0]
    have ee:KK L (arrOf st') (lo+x)=KK L (arrOf st') (lo+x-1):=L.total _ _ hb hb2;refine Ad1 {q+1,rfl,B','o',hd'.snoc 'o' (by rw[ee];exact KeyOrd.kle_refl _),'o',λi g1 g2=>?_,ho};have e3:lo+(x+1)-1=lo+x:=by omega
    rw[e3,ee];by_cases hi:i=lo+x
    ·rw[hi,ee]
    ·exact he i 'o' 'o'
   ·rw[if_pos rfl]
    exact Ad1 {x,q,rfl,'o',B',hxn,hd',hq,he,ho}
  ·rw[if_pos rfl]
   have lt:L.kle (KK L (arrOf st') (lo+x)) (KK L (arrOf st') (lo+x-1)):=KeyOrd.kle_of_klt hb;by_cases hq0:q>0
   ·show wpS _ _ _ _ (if q>0 then _ else _) _ _
    rw[if_pos hq0];show wpS _ _ _ _ (reverseSlice' (lo+x-(q+1)) (lo+x) >>= λ_=>pure (ForInStep.yield (none,x+1,0))) _ _;rw[reverseSlice'_eq];have ks:∀k,KK L (mirror (arrOf st') (lo+x-(q+1)) (lo+x) ((lo+x-(lo+x-(q+1))) / 2)) k=KK L (arrOf st') k:=xb0 hz he;refine Ab1 (Am1 (Ad1 {0,rfl,B'.arr (mirror_perm _ _ _ _),'o',(hd'.congr ks).snoc 'o' (by rw[ks,ks];exact lt),'o',λi g1 g2=>?_,ho.trans (Out.mir hz 'o' 'o')}));rw[show i=lo+(x+1)-1 by omega]
   ·show wpS _ _ _ _ (if q>0 then _ else _) _ _
    rw[if_neg hq0];refine Ad1 {0,rfl,B','o',hd'.snoc 'o' lt,'o',λi g1 g2=>?_,ho};rw[show i=lo+(x+1)-1 by omega]
 ·obtain⟨q,e,B',hxn,hd',hq,he,ho⟩:=hI
  exact{_,q,e,'o',B',hxn,hd',hq,he,ho}
 ·obtain⟨x,q,e,hx,B',hxn,hd',hq,he,ho⟩:=hI
  subst e;have hz:lo+x<=(arrOf st').size:=by rw[B'.size];omega
  by_cases hq0:q>0
  ·show wpS _ _ _ _ (if q>0 then _ else _) _ _
   rw[if_pos hq0];rw[reverseSlice'_eq (lo+x-(q+1)) (lo+x)];have ks:∀k,KK L (mirror (arrOf st') (lo+x-(q+1)) (lo+x) ((lo+x-(lo+x-(q+1))) / 2)) k=KK L (arrOf st') k:=xb0 hz he;refine Ab1 (Am1 ?_);exact xm4 C h0 (B'.arr (mirror_perm _ _ _ _)) hl hx hxn (hd'.congr ks) λm st2 B2 m1 m2 u2 o2=>h m st2 B2 m1 m2 u2 (ho.trans ((Out.mir hz 'o' 'o').trans o2))
  ·show wpS _ _ _ _ (if q>0 then _ else _) _ _
   rw[if_neg hq0];exact xm4 C h0 B' hl hx hxn hd' λm st2 B2 m1 m2 u2 o2=>h m st2 B2 m1 m2 u2 (ho.trans o2)
open H in
def yc8(C:Cmp prog w A E s L knd)(h0:KeysOf L a₀)(B:Bs a₀ knd P st){lo B7:Nat}(hl:lo+B7<=a₀.size)(h1:1<=B7){Q:Option Nat->SortSt->Prop}(h:∀m st',Bs a₀ knd P st'->1<=m->m<=B7->Up L (arrOf st') lo (lo+m)->Out (arrOf st) (arrOf st') lo (lo+B7)->Q (some m) st'):wpS 'r' A E s (countRun' lo B7) Q st:=by
 rw[countRun'_eq];refine Ab1 ?_;refine wg8 C h0 B hl (Ae0 1) h1 (Up.one 'o') λn g1 g2 g3 g4=>?_
 dsimp only;by_cases hn:n=B7
 ·rw[if_pos (by rw[hn];exact Aq1 _)]
  exact Ad1 (h n st B g1 g2 g3 Out.refl)
 rw[if_neg (by simpa using hn)];have hlt:L.blt (KK L (arrOf st) (lo+n)) (KK L (arrOf st) (lo+n-1))=true:=g4.resolve_left hn;by_cases h2:n>1
 ·rw[if_pos h2]
  refine Ab1 (yc6 C h0 B 'o' 'o' ?_);show wpS _ _ _ _ (if L.blt (KK L (arrOf st) lo) (KK L (arrOf st) (lo+n-1))=true then _ else _) _ _;cases hb:L.blt (KK L (arrOf st) lo) (KK L (arrOf st) (lo+n-1));case true=>
   rw[if_pos rfl];exact Ad1 (h n st B g1 g2 g3 Out.refl)
  rw[if_neg Aq0];have hz:lo+n<=(arrOf st).size:=by rw[B.size];omega
  have same:∀i,lo<=i->i<lo+n->KK L (arrOf st) i=KK L (arrOf st) lo:=λi k1 k2=>by
   have a1:=g3 lo i (Ae0 _) k1 k2;have a2:=KeyOrd.kle_trans (g3 i (lo+n-1) k1 'o' 'o') hb;exact KeyOrd.kle_antisymm a2 a1
  have ks:=xb0 hz same;rw[reverseSlice'_eq lo (lo+n)];refine Ab1 (Am1 ?_);have dn:Dn L (arrOf st) lo (lo+n):=λi j k1 k2 k3=>by rw[same i k1 'o',same j 'o' k3];exact KeyOrd.kle_refl _
  have go:=xn1 (Q:=Q) C h0 (B.arr (mirror_perm _ _ _ _)) hl (n:=n+1) 'o' 'o' ((dn.congr ks).snoc g1 (by rw[ks,ks];exact KeyOrd.kle_of_klt hlt)) λm st2 B2 m1 m2 u2 o2=>h m st2 B2 m1 m2 u2 ((Out.mir hz (Ae0 _) 'o').trans o2)
  refine Eq.mp ?_ go;congr 1;congr 1;funext _u;congr 1;funext i;obtain⟨r1,r2,r3⟩:=i;cases r1 with
  | some r=>rfl
  | none=>
    dsimp only;split
    ·congr 1;funext _v;congr 1;funext _v;congr 1;funext j;obtain⟨j1,j2⟩:=j;cases j1<;>rfl
    ·congr 1;funext _v;congr 1;funext j;obtain⟨j1,j2⟩:=j;cases j1<;>rfl
 ·rw[if_neg h2]
  have e1:n=1:=by omega
  have dn:Dn L (arrOf st) lo (lo+n):=λi j k1 k2 k3=>by
   have:i=j:=by omega
   subst this;exact KeyOrd.kle_refl _
  have go:=xn1 (Q:=Q) C h0 B hl (n:=n+1) 'o' 'o' (dn.snoc g1 (KeyOrd.kle_of_klt hlt)) h;refine Eq.mp ?_ go;congr 1;congr 1;funext _u;congr 1;funext i;obtain⟨r1,r2,r3⟩:=i;cases r1 with
  | some r=>rfl
  | none=>
    dsimp only;split
    ·congr 1;funext _v;congr 1;funext _v;congr 1;funext j;obtain⟨j1,j2⟩:=j;cases j1<;>rfl
    ·congr 1;funext _v;congr 1;funext j;obtain⟨j1,j2⟩:=j;cases j1<;>rfl
end
section
variable{knd:SortKind}{st:SortSt}
def wk4{xs:Array Keyed}{src d k:Nat}(hs:src<xs.size)(hd:d<=src):KK L (bubble xs src d) k=if k=src-d then KK L xs src else if src-d<k/\k<=src then KK L xs (k-1) else KK L xs k:=KK_bubble hs hd k
def yq5(C:Cmp prog w A E s L knd)(h0:KeysOf L a₀)(B:Bs a₀ knd P st){lo n ok:Nat}(hl:lo+n<=a₀.size)(hok:ok<=n)(hu:Up L (arrOf st) lo (lo+ok)){Q:Bool->SortSt->Prop}(h:∀st',Bs a₀ knd P st'->Up L (arrOf st') lo (lo+n)->Out (arrOf st) (arrOf st') lo (lo+n)->Q true st'):wpS 'r' A E s (binarySort' lo n ok) Q st:=by
 rw[binarySort'_eq];refine Ab1 (Al1 (Af1 (I:=λk c st'=>c=(none,())/\Bs a₀ knd P st'/\Up L (arrOf st') lo (lo+min k n)/\Out (arrOf st) (arrOf st') lo (lo+n)) (Q:=λc st'=>c=(none,())/\Bs a₀ knd P st'/\Up L (arrOf st') lo (lo+n)/\Out (arrOf st) (arrOf st') lo (lo+n)) (λk c st' hk1 hk2 hI=>?_) (λc st' hI=>?_) {rfl,B,?_,Out.refl}) λc st' hI=>?_)
 ·obtain⟨e,B',hu',ho⟩:=hI
  subst e;rw[show min k n=k by omega] at hu';have hks:lo+k<(arrOf st').size:=by rw[B'.size];omega
  refine Ab1 (Al1 (Af1 (I:=λx c st2=>st2=st'/\∃l r,c=(none,l,r)/\l<=r/\r<=k/\r-l<=k-x/\(∀i,i<l->L.kle (KK L (arrOf st') (lo+i)) (KK L (arrOf st') (lo+k)))/\∀i,r<=i->i<k->L.kle (KK L (arrOf st') (lo+k)) (KK L (arrOf st') (lo+i))) (Q:=λc st2=>st2=st'/\∃l r,c=(none,l,r)/\l<=k/\(∀i,i<l->L.kle (KK L (arrOf st') (lo+i)) (KK L (arrOf st') (lo+k)))/\∀i,l<=i->i<k->L.kle (KK L (arrOf st') (lo+k)) (KK L (arrOf st') (lo+i)))
   (λx c st2 hx1 hx2 hI=>?_) (λc st2 hI=>?_) {rfl,0,k,rfl,'o','o','o',λi hi=>by omega,λi g1 g2=>by omega}) λc st2 hI=>?_)
  ·obtain⟨e1,l,r,e2,hlr,hrk,hm,hlo,hhi⟩:=hI
   subst e1 e2;dsimp only;by_cases hge:l>=r
   ·rw[if_pos hge]
    have:l=r:=by omega
    subst this;exact Ad1 ⟨rfl,l,l,rfl,hrk,hlo,hhi⟩
   ·rw[if_neg hge]
    refine Ab1 (yc6 C h0 B' (i:=lo+k) (j:=lo+(l+r) / 2) 'o' 'o' ?_);show wpS _ _ _ _ (if L.blt (KK L (arrOf st2) (lo+k)) (KK L (arrOf st2) (lo+(l+r) / 2))=true then _ else _) _ _;cases hb:L.blt (KK L (arrOf st2) (lo+k)) (KK L (arrOf st2) (lo+(l+r) / 2))
    ·rw[if_neg Aq0]
     refine Ad1 {rfl,(l+r) / 2+1,r,rfl,'o','o','o',λi g1=>?_,hhi};exact KeyOrd.kle_trans (hu' (lo+i) (lo+(l+r) / 2) 'o' 'o' 'o') hb
    ·rw[if_pos rfl]
     refine Ad1 {rfl,l,(l+r) / 2,rfl,'o','o','o',hlo,λi g1 g2=>?_};exact KeyOrd.kle_trans (KeyOrd.kle_of_klt hb) (hu' (lo+(l+r) / 2) (lo+i) 'o' 'o' 'o')
  ·obtain⟨e1,l,r,e2,hlr,hrk,hm,hlo,hhi⟩:=hI
   have:l=r:=by omega
   subst this;exact⟨e1,l,l,e2,hrk,hlo,hhi⟩
  ·obtain⟨e1,l,r,e2,hlk,hlo,hhi⟩:=hI
   subst e1 e2;show wpS _ _ _ _ (moveDown' (lo+k) (lo+l) >>= λ_=>pure (ForInStep.yield (none,()))) _ _;rw[moveDown'_eq];have ds:lo+k-(lo+l)<=lo+k:=by omega
   refine Ab1 (Am1 (Ad1 {rfl,B'.arr (bubble_perm _ _ _),?_,ho.trans λi hi=>?_}))
   ·rw[show min (k+1) n=k+1 by omega]
    intro i j g1 g2 g3;show L.kle (KK L (bubble (arrOf st2) (lo+k) (lo+k-(lo+l))) i) (KK L (bubble (arrOf st2) (lo+k) (lo+k-(lo+l))) j);rw[wk4 hks ds,wk4 hks ds,show lo+k-(lo+k-(lo+l))=lo+l by omega];by_cases i1:i=lo+l
    ·rw[if_pos i1]
     by_cases j1:j=lo+l
     ·rw[if_pos j1];exact KeyOrd.kle_refl _
     ·rw[if_neg j1,if_pos {'o','o'}]
      have:=hhi (j-1-lo) 'o' 'o';rwa [show lo+(j-1-lo)=j-1 by omega] at this
    ·rw[if_neg i1]
     by_cases i2:lo+l<i/\i<=lo+k
     ·rw[if_pos i2,if_neg 'o',if_pos {'o','o'}]
      exact hu' _ _ 'o' 'o' 'o'
     ·rw[if_neg i2]
      by_cases j1:j=lo+l
      ·rw[if_pos j1]
       have:=hlo (i-lo) 'o';rwa [show lo+(i-lo)=i by omega] at this
      ·rw[if_neg j1]
       by_cases j2:lo+l<j/\j<=lo+k
       ·rw[if_pos j2]
        exact hu' _ _ 'o' 'o' 'o'
       ·rw[if_neg j2]
        exact hu' _ _ 'o' 'o' 'o'
   ·show (bubble (arrOf st2) (lo+k) (lo+k-(lo+l)))[i]?=_
    rw[getElem?_bubble hks _ ds,if_neg 'o',if_neg 'o']
 ·obtain⟨e,B',hu',ho⟩:=hI
  rw[show min (max (max ok 1) n) n=n by omega] at hu';exact⟨e,B',hu',ho⟩
 ·by_cases h1:ok=0
  ·exact Up.one 'o'
  ·exact λi j g1 g2 g3=>hu i j g1 g2 'o'
 ·obtain⟨e,B',hu',ho⟩:=hI
  subst e;exact Ad1 (h st' B' hu' ho)
end
local macro_rules
 | `(tactic| omega)=>`(tactic| omega +splitDisjunctions)
noncomputable abbrev SM:=StateT SortSt Sem
instance gal:Bool->Keyed->Array Keyed->Nat->Nat->Nat->SM (Option Nat):=sortPriv% PySem.Builtin.gallop
instance far(left:Bool)(key:Keyed)(arr:Array Keyed)(base i:Nat):SM (Option Bool):=do
 let x <-elem' arr (base+i)
 if left then lt' x key else return (<-lt' key x).map (!·)
instance vr2(left:Bool)(key:Keyed)(arr:Array Keyed)(base n p0 q0:Nat):SM (Option Nat):=do
 let mut p:=p0
 let mut q:=q0
 for _ in [0:n] do
  if p>=q then break
  let m:=p+(q-p) / 2
  let some y <-far left key arr base m | return none
  if y then p:=m+1 else q:=m
 return some q
def wz2(left:Bool)(key:Keyed)(arr:Array Keyed)(base n hint:Nat):gal left key arr base n hint=(do
 let mut u:=0
 let mut v:=1
 let some r <-far left key arr base hint | return none
 if r then
  for _ in [0:n] do
   if v>=n-hint then break
   let some y <-far left key arr base (hint+v) | return none
   if !y then break
   u:=v
   v:=2*v+1
  vr2 left key arr base n (hint+u+1) (hint+min v (n-hint))
 else
  for _ in [0:n] do
   if v>=hint+1 then break
   let some y <-far left key arr base (hint-v) | return none
   if y then break
   u:=v
   v:=2*v+1
  vr2 left key arr base n (hint+1-min v (hint+1)) (hint-u)):=rfl
section
variable{prog:Program}{w:World}{A:Around}{E:Value->Shared->Prop}{s:Shared}{L:KeyKind}{knd:SortKind}{st:SortSt}{left:Bool}{key:Keyed}{arr:Array Keyed}{base n:Nat}{f:Nat->Bool}
structure Cut(prog:Program)(w:World)(A:Around)(E:Value->Shared->Prop)(s:Shared)(knd:SortKind)(left:Bool)(key:Keyed)(arr:Array Keyed)(base n:Nat)(f:Nat->Bool):Prop where
 far:∀(i:Nat) (st:SortSt) (Q:Option Bool->SortSt->Prop),i<n->kindOf st=knd->Q (some (f i)) st->wpS 'r' A E s (far left key arr base i) Q st
 mono:∀i j,i<=j->j<n->f j=true->f i=true
def xb7(F:Cut prog w A E s knd left key arr base n f)(hk:kindOf st=knd){p q:Nat}(hpq:p<=q)(hq:q<=n)(hp1:∀i,i<p->f i=true)(hq1:∀i,q<=i->i<n->f i=false){Q:Option Nat->SortSt->Prop}(h:∀k,k<=n->(∀i,i<k->f i=true)->(∀i,k<=i->i<n->f i=false)->Q (some k) st):wpS 'r' A E s (vr2 left key arr base n p q) Q st:=by
 unfold vr2;refine Ab1 (Al1 (Af1 (I:=λx c st'=>st'=st/\∃p q,c=(none,p,q)/\p<=q/\q<=n/\q-p<=n-x/\(∀i,i<p->f i=true)/\∀i,q<=i->i<n->f i=false) (Q:=λc st'=>st'=st/\∃p,c=(none,p,p)/\p<=n/\(∀i,i<p->f i=true)/\∀i,p<=i->i<n->f i=false) (λx c st' hx1 hx2 hI=>?_) (λc st' hI=>?_) {rfl,p,q,rfl,hpq,hq,'o',hp1,hq1}) λc st' hI=>?_)
 ·obtain⟨e1,p,q,e2,g1,g2,g3,g4,g5⟩:=hI
  subst e1 e2;dsimp only;by_cases hge:p>=q
  ·rw[if_pos hge]
   have:p=q:=by omega
   subst this;exact Ad1 ⟨rfl,p,rfl,g2,g4,g5⟩
  ·rw[if_neg hge]
   refine Ab1 (F.far _ _ _ 'o' hk ?_);show wpS _ _ _ _ (if f (p+(q-p) / 2)=true then _ else _) _ _;cases hf:f (p+(q-p) / 2)
   ·rw[if_neg Aq0]
    refine Ad1 {rfl,p,p+(q-p) / 2,rfl,'o','o','o',g4,λi k1 k2=>?_};cases hi:f i
    ·rfl
    ·rw[F.mono _ i k1 k2 hi] at hf;cases hf
   ·rw[if_pos rfl]
    refine Ad1 {rfl,p+(q-p) / 2+1,q,rfl,'o','o','o',λi k1=>?_,g5};exact F.mono i _ 'o' 'o' hf
 ·obtain⟨e1,p,q,e2,g1,g2,g3,g4,g5⟩:=hI
  have:p=q:=by omega
  subst this;exact⟨e1,p,e2,g2,g4,g5⟩
 ·obtain⟨e1,p,e2,g2,g4,g5⟩:=hI
  subst e1 e2;exact Ad1 (h p g2 g4 g5)
def yh8(F:Cut prog w A E s knd left key arr base n f)(hk:kindOf st=knd){hint:Nat}(hh:hint<n){Q:Option Nat->SortSt->Prop}(h:∀k,k<=n->(∀i,i<k->f i=true)->(∀i,k<=i->i<n->f i=false)->Q (some k) st):wpS 'r' A E s (gal left key arr base n hint) Q st:=by
 rw[wz2];have dn:∀i,i<n->f i=false->∀j,i<=j->j<n->f j=false:=λi hi hf j h1 h2=>by
  cases hj:f j
  ·rfl
  ·rw[F.mono i j h1 h2 hj] at hf;cases hf
 refine Ab1 (F.far hint _ _ hh hk ?_);dsimp only;cases hr:f hint
 ·rw[if_neg Aq0]
  refine Ab1 (Al1 (Af1 (I:=λx c st'=>st'=st/\∃u v,c=(none,u,v)/\u<=hint/\f (hint-u)=false/\u<v/\x<v) (Q:=λc st'=>st'=st/\∃u v,c=(none,u,v)/\u<=hint/\f (hint-u)=false/\u<v/\(v>=hint+1\/f (hint-v)=true)) (λx c st' hx1 hx2 hI=>?_) (λc st' hI=>?_) {rfl,0,1,rfl,'o',hr,'o','o'}) λc st' hI=>?_)
  ·obtain⟨e1,u,v,e2,g1,g2,g3,g4⟩:=hI
   subst e1 e2;dsimp only;by_cases hv:v>=hint+1
   ·rw[if_pos hv]
    exact Ad1 {rfl,u,v,rfl,g1,g2,g3,.inl hv}
   ·rw[if_neg hv]
    refine Ab1 (F.far _ _ _ 'o' hk ?_);show wpS _ _ _ _ (if f (hint-v)=true then _ else _) _ _;cases hf:f (hint-v)
    ·rw[if_neg Aq0]
     exact Ad1 {rfl,v,2*v+1,rfl,'o',hf,'o','o'}
    ·rw[if_pos rfl]
     exact Ad1 {rfl,u,v,rfl,g1,g2,g3,.inr hf}
  ·obtain⟨e1,u,v,e2,g1,g2,g3,g4⟩:=hI
   exact{e1,u,v,e2,g1,g2,g3,.inl 'o'}
  ·obtain⟨e1,u,v,e2,g1,g2,g3,g4⟩:=hI
   subst e1 e2;refine xb7 F hk (p:=hint+1-min v (hint+1)) (q:=hint-u) 'o' 'o' (λi hi=>?_) (λi k1 k2=>dn _ 'o' g2 i k1 k2) h;rcases g4 with g4 | g4
   ·omega
   ·exact F.mono i (hint-v) 'o' 'o' g4
 ·rw[if_pos rfl]
  refine Ab1 (Al1 (Af1 (I:=λx c st'=>st'=st/\∃u v,c=(none,u,v)/\hint+u<n/\f (hint+u)=true/\u<v/\x<v) (Q:=λc st'=>st'=st/\∃u v,c=(none,u,v)/\hint+u<n/\f (hint+u)=true/\u<v/\(v>=n-hint\/hint+v<n/\f (hint+v)=false)) (λx c st' hx1 hx2 hI=>?_) (λc st' hI=>?_) {rfl,0,1,rfl,'o',hr,'o','o'}) λc st' hI=>?_)
  ·obtain⟨e1,u,v,e2,g1,g2,g3,g4⟩:=hI
   subst e1 e2;dsimp only;by_cases hv:v>=n-hint
   ·rw[if_pos hv]
    exact Ad1 {rfl,u,v,rfl,g1,g2,g3,.inl hv}
   ·rw[if_neg hv]
    refine Ab1 (F.far _ _ _ 'o' hk ?_);show wpS _ _ _ _ (if (!f (hint+v))=true then _ else _) _ _;cases hf:f (hint+v)
    ·rw[if_pos (show (!false)=true from rfl)]
     exact Ad1 {rfl,u,v,rfl,g1,g2,g3,.inr {'o',hf}}
    ·rw[if_neg 'z']
     exact Ad1 {rfl,v,2*v+1,rfl,'o',hf,'o','o'}
  ·obtain⟨e1,u,v,e2,g1,g2,g3,g4⟩:=hI
   exact{e1,u,v,e2,g1,g2,g3,.inl 'o'}
  ·obtain⟨e1,u,v,e2,g1,g2,g3,g4⟩:=hI
   subst e1 e2;refine xb7 F hk (p:=hint+u+1) (q:=hint+min v (n-hint)) 'o' 'o' (λi hi=>F.mono i (hint+u) 'o' g1 g2) (λi k1 k2=>?_) h;rcases g4 with g4 | ⟨g4,g5⟩
   ·omega
   ·exact dn _ g4 g5 i 'o' k2
end
end Ts
namespace Ts
open PySem PyProof.Rows
instance mlo:Array Keyed->Array Keyed->SM (Array Keyed):=sortPriv% PySem.Builtin.mergeLo
instance vq0(g:Nat):SM Unit:=(sortPriv% PySem.Builtin.setMinGallop) g
noncomputable abbrev vf2(a b out:Array Keyed)(ia ib:Nat):Array Keyed:=out++a.extract ia a.size++b.extract ib b.size
noncomputable abbrev vi6(a b out:Array Keyed)(ia ib:Nat):Array Keyed:=out++b.extract ib b.size++a.extract ia a.size
def wx2(a b:Array Keyed):mlo a b=(do
 rule "list.sort.merge-lo"
 let mut out:Array Keyed:=#[<-elem' b 0]
 let mut ia:=0
 let mut ib:=1
 if ib == b.size then return vf2 a b out ia ib
 if ia+1 == a.size then return vi6 a b out ia ib
 let mut mg:=gallopOf (<-get)
 for _ in [0:a.size+b.size] do
  let mut ca:=0
  let mut cb:=0
  for _ in [0:a.size+b.size] do
   let some y <-lt' (<-elem' b ib) (<-elem' a ia) | return vf2 a b out ia ib
   if y then
    out:=out.push (<-elem' b ib)
    ib:=ib+1
    cb:=cb+1
    ca:=0
    if ib == b.size then return vf2 a b out ia ib
    if cb>=mg then break
   else
    out:=out.push (<-elem' a ia)
    ia:=ia+1
    ca:=ca+1
    cb:=0
    if ia+1 == a.size then return vi6 a b out ia ib
    if ca>=mg then break
  rule "list.sort.gallop"
  mg:=mg+1
  for _ in [0:a.size+b.size] do
   if mg>1 then mg:=mg-1
   vq0 mg
   let some k <-gal false (<-elem' b ib) a ia (a.size-ia) 0 | return vf2 a b out ia ib
   ca:=k
   if k>0 then
    out:=out++a.extract ia (ia+k)
    ia:=ia+k
    if ia+1 == a.size then return vi6 a b out ia ib
    if ia == a.size then return vf2 a b out ia ib
   out:=out.push (<-elem' b ib)
   ib:=ib+1
   if ib == b.size then return vf2 a b out ia ib
   let some k <-gal true (<-elem' a ia) b ib (b.size-ib) 0 | return vf2 a b out ia ib
   cb:=k
   if k>0 then
    out:=out++b.extract ib (ib+k)
    ib:=ib+k
    if ib == b.size then return vf2 a b out ia ib
   out:=out.push (<-elem' a ia)
   ia:=ia+1
   if ia+1 == a.size then return vi6 a b out ia ib
   if ca<7&&cb<7 then break
  mg:=mg+1
  vq0 mg
 unsupported "internal:list.sort.merge-bound"):=rfl
section
variable{L:KeyKind}{a b:Array Keyed}{out:List Keyed}{ia ib:Nat}
noncomputable abbrev le(L:KeyKind)(x y:Keyed):Prop:=L.kle (ky L x) (ky L y)
def vd7{xs:Array Keyed}{i:Nat}(h:i<xs.size):KK L xs i=ky L xs[i]:=by
 unfold KK ky;rw[Bc0 h]
structure Mg(L:KeyKind)(a b:Array Keyed)(out:List Keyed)(ia ib:Nat):Prop where
 perm:(out++(a.toList.drop ia++b.toList.drop ib)).Perm (a.toList++b.toList)
 up:out.Pairwise (le L)
 la:∀x∈out,∀i,ia<=i->i<a.size->L.kle (ky L x) (KK L a i)
 lb:∀x∈out,∀i,ib<=i->i<b.size->L.kle (ky L x) (KK L b i)
def yo9{xs:Array Keyed}{i:Nat}(h:i<xs.size):xs.toList.drop i=xs[i]::xs.toList.drop (i+1):=by
 rw[List.drop_eq_getElem_cons (by simpa using h)];simp
def yx4{x:Keyed}(hu:out.Pairwise (le L))(h:∀z∈out,le L z x):(out++[x]).Pairwise (le L):=
 Bl0.mpr {hu,Cu0 _ _,λz hz y hy=>by rw[Al0.mp hy];exact h z hz}
def Mg.pushA(m:Mg L a b out ia ib)(ua:Up L a 0 a.size)(hi:ia<a.size)(h:∀j,ib<=j->j<b.size->L.kle (KK L a ia) (KK L b j)):Mg L a b (out++[a[ia]]) (ia+1) ib:=by
 refine{?_,yx4 m.up λz hz=>?_,λx hx i h1 h2=>?_,λx hx i h1 h2=>?_}
 ·have:=m.perm
  rw[yo9 hi] at this;simpa [Ao0] using this
 ·have:=m.la z hz ia (Ae0 _) hi
  rwa [vd7 hi] at this
 ·rcases Ar0.mp hx with hx | hx
  ·exact m.la x hx i 'o' h2
  ·rw[Al0.mp hx,<-vd7 hi]
   exact ua ia i (An0 _) 'o' h2
 ·rcases Ar0.mp hx with hx | hx
  ·exact m.lb x hx i h1 h2
  ·rw[Al0.mp hx,<-vd7 hi]
   exact h i h1 h2
def Mg.pushB(m:Mg L a b out ia ib)(ub:Up L b 0 b.size)(hi:ib<b.size)(h:∀j,ia<=j->j<a.size->L.kle (KK L b ib) (KK L a j)):Mg L a b (out++[b[ib]]) ia (ib+1):=by
 refine{?_,yx4 m.up λz hz=>?_,λx hx i h1 h2=>?_,λx hx i h1 h2=>?_}
 ·have:=m.perm
  rw[yo9 hi] at this;refine List.Perm.trans ?_ this;rw[Ao0];exact List.Perm.append_left _ (show (b[ib]::(a.toList.drop ia++b.toList.drop (ib+1))).Perm _ from List.perm_middle.symm)
 ·have:=m.lb z hz ib (Ae0 _) hi
  rwa [vd7 hi] at this
 ·rcases Ar0.mp hx with hx | hx
  ·exact m.la x hx i h1 h2
  ·rw[Al0.mp hx,<-vd7 hi]
   exact h i h1 h2
 ·rcases Ar0.mp hx with hx | hx
  ·exact m.lb x hx i 'o' h2
  ·rw[Al0.mp hx,<-vd7 hi]
   exact ub ib i (An0 _) 'o' h2
def xn6{xs:Array Keyed}{i k:Nat}(h:i+k<xs.size):(xs.toList.drop i).take (k+1)=(xs.toList.drop i).take k++[xs[i+k]]:=by
 rw[Av0,List.getElem?_drop];simp[Bc0 h]
theorem Mg.takeA(m:Mg L a b out ia ib)(ua:Up L a 0 a.size):∀k,ia+k<=a.size->(∀i,i<k->∀j,ib<=j->j<b.size->L.kle (KK L a (ia+i)) (KK L b j))->Mg L a b (out++(a.toList.drop ia).take k) (ia+k) ib
 | 0,_,_=>by simpa using m
 | k+1,hk,h=>by
   have ih:=Mg.takeA m ua k 'o' λi hi=>h i 'o'
   have:=ih.pushA ua 'o' (h k 'o');rw[xn6 'o',<-Ao0];exact this
theorem Mg.takeB(m:Mg L a b out ia ib)(ub:Up L b 0 b.size):∀k,ib+k<=b.size->(∀i,i<k->∀j,ia<=j->j<a.size->L.kle (KK L b (ib+i)) (KK L a j))->Mg L a b (out++(b.toList.drop ib).take k) ia (ib+k)
 | 0,_,_=>by simpa using m
 | k+1,hk,h=>by
   have ih:=Mg.takeB m ub k 'o' λi hi=>h i 'o'
   have:=ih.pushB ub 'o' (h k 'o');rw[xn6 'o',<-Ao0];exact this
instance vi8(L:KeyKind)(a b:Array Keyed)(r:List Keyed):Prop:=r.Perm (a.toList++b.toList)/\r.Pairwise (le L)
def yl5{xs:Array Keyed}{i:Nat}(u:Up L xs 0 xs.size):(xs.toList.drop i).Pairwise (le L):=by
 rw[Cg0];intro p q hp hq hpq;rw[List.length_drop,Aw0] at hp hq;have:=u (i+p) (i+q) (An0 _) 'o' 'o';rw[vd7 'o',vd7 'o'] at this;simpa [List.getElem_drop] using this
def zt1{xs:Array Keyed}{i:Nat}{x:Keyed}(h:x∈xs.toList.drop i):∃j,i<=j/\j<xs.size/\ky L x=KK L xs j:=by
 obtain⟨j,hj,e⟩:=List.getElem_of_mem h;rw[List.length_drop,Aw0] at hj;refine{i+j,'o','o',?_};rw[vd7 'o',<-e];simp[List.getElem_drop]
def Mg.doneB(m:Mg L a b out ia ib)(ua:Up L a 0 a.size)(h:b.size<=ib):vi8 L a b (out++a.toList.drop ia++b.toList.drop ib):=by
 have hb:b.toList.drop ib=[]:=List.drop_eq_nil_of_le (by simpa using h);refine{by rw[Ao0];exact m.perm,?_};rw[hb,Bh0];refine Bl0.mpr {m.up,yl5 ua,λx hx y hy=>?_};obtain⟨j,h1,h2,e⟩:=zt1 (L:=L) hy;show L.kle (ky L x) (ky L y);rw[e];exact m.la x hx j h1 h2
def Mg.doneA(m:Mg L a b out ia ib)(ub:Up L b 0 b.size)(h:a.size<=ia):vi8 L a b (out++a.toList.drop ia++b.toList.drop ib):=by
 have ha:a.toList.drop ia=[]:=List.drop_eq_nil_of_le (by simpa using h);refine{by rw[Ao0];exact m.perm,?_};rw[ha,Bh0];refine Bl0.mpr {m.up,yl5 ub,λx hx y hy=>?_};obtain⟨j,h1,h2,e⟩:=zt1 (L:=L) hy;show L.kle (ky L x) (ky L y);rw[e];exact m.lb x hx j h1 h2
def Mg.last(m:Mg L a b out ia ib)(ub:Up L b 0 b.size)(h:ia+1=a.size)(hl:∀j,j<b.size->L.kle (KK L b j) (KK L a ia)):vi8 L a b (out++b.toList.drop ib++a.toList.drop ia):=by
 have ha:a.toList.drop ia=[a[ia]]:=by rw[yo9 'o',List.drop_eq_nil_of_le (by simp;omega)]
 refine{?_,?_}
 ·refine List.Perm.trans ?_ m.perm
  rw[Ao0];exact List.Perm.append_left _ List.perm_append_comm
 ·rw[ha]
  refine yx4 (Bl0.mpr {m.up,yl5 ub,λx hx y hy=>?_}) λz hz=>?_
  ·obtain⟨j,h1,h2,e⟩:=zt1 (L:=L) hy
   show L.kle (ky L x) (ky L y);rw[e];exact m.lb x hx j h1 h2
  ·show L.kle (ky L z) (ky L a[ia])
   rw[<-vd7 'o'];rcases Ar0.mp hz with hz | hz
   ·exact m.la z hz ia (Ae0 _) 'o'
   ·obtain⟨j,h1,h2,e⟩:=zt1 (L:=L) hz
    rw[e];exact hl j h2
end
section
variable{prog:Program}{w:World}{A:Around}{E:Value->Shared->Prop}{s:Shared}{L:KeyKind}{knd:SortKind}{st:SortSt}{a b:Array Keyed}
structure vh8(st st':SortSt):Prop where
 arr:arrOf st'=arrOf st
 pend:pendingOf st'=pendingOf st
 fail:failedOf st'=failedOf st
 kind:kindOf st'=kindOf st
def vh8.refl:vh8 st st:=⟨rfl,rfl,rfl,rfl⟩
def wp3(g:Nat):vq0 g=modify λs=>SortSt.mk' (kindOf s) (arrOf s) (pendingOf s) g (failedOf s):=rfl
def yl1{st0:SortSt}{g:Nat}{Q:Unit->SortSt->Prop}(l:vh8 st0 st)(h:∀st',vh8 st0 st'->Q () st'):wpS 'r' A E s (vq0 g) Q st:=by
 rw[wp3];exact Am1 (h _ ⟨l.arr,l.pend,l.fail,l.kind⟩)
def zd7{xs:Array Keyed}{i:Nat}(h:i<xs.size){Q:Keyed->SortSt->Prop}(hq:Q xs[i] st):wpS 'r' A E s (elem' xs i) Q st:=by
 rw[elem'_eq,Bc0 h];exact Ad1 hq
def yh6(C:Cmp prog w A E s L knd)(hk:kindOf st=knd)(ka:KeysOf L a)(kb:KeysOf L b){i j:Nat}(hi:i<a.size)(hj:j<b.size){Q:Option Bool->SortSt->Prop}(h:Q (some (L.blt (KK L a i) (KK L b j))) st) :
 wpS 'r' A E s (lt' a[i] b[j]) Q st:=by
 obtain⟨x,hx⟩:=ka a[i] (Array.getElem_mem_toList hi);obtain⟨y,hy⟩:=kb b[j] (Array.getElem_mem_toList hj);refine C st _ _ x y Q hk hx hy ?_;rw[vd7 hi,vd7 hj] at h;unfold ky at h;rw[hx,hy] at h;exact h
def uk9(C:Cmp prog w A E s L knd)(ka:KeysOf L a)(kb:KeysOf L b)(ua:Up L a 0 a.size){base n j:Nat}(hn:base+n<=a.size)(hj:j<b.size):Cut prog w A E s knd false b[j] a base n (λi=>!L.blt (KK L b j) (KK L a (base+i))) where
 far:=λi st Q hi hk h=>by
  unfold far;refine Ab1 (zd7 'o' ?_);show wpS _ _ _ _ (lt' b[j] a[base+i] >>= λx=>pure (x.map (!·))) Q st;exact Ab1 (yh6 C hk kb ka hj 'o' (Ad1 h))
 mono:=λi k h1 h2 h=>by
  have h:L.blt (KK L b j) (KK L a (base+k))=false:=by simpa using h
  have:=KeyOrd.kle_trans (ua (base+i) (base+k) (An0 _) 'o' 'o') h;have:L.blt (KK L b j) (KK L a (base+i))=false:=this;simp[this]
def ul0(C:Cmp prog w A E s L knd)(ka:KeysOf L a)(kb:KeysOf L b)(ub:Up L b 0 b.size){base n i:Nat}(hn:base+n<=b.size)(hi:i<a.size):Cut prog w A E s knd true a[i] b base n (λk=>L.blt (KK L b (base+k)) (KK L a i)) where
 far:=λk st Q hk2 hk h=>by
  unfold far;refine Ab1 (zd7 'o' ?_);show wpS _ _ _ _ (lt' b[base+k] a[i]) Q st;exact yh6 C hk kb ka 'o' hi h
 mono:=λp q h1 h2 h=>KeyOrd.klt_of_kle_of_klt (ub (base+p) (base+q) (An0 _) 'o' 'o') h
def zg1{xs:Array Keyed}{i j:Nat}(h:j<=xs.size):(xs.extract i j).toList=(xs.toList.drop i).take (j-i):=by
 simp[Array.toList_extract,List.extract_eq_drop_take]
structure Mid(L:KeyKind)(a b:Array Keyed)(st:SortSt)(out:Array Keyed)(ia ib:Nat)(st':SortSt)(lo:Nat):Prop where
 m:Mg L a b out.toList ia ib
 ha:ia+1<a.size
 hb:ib<b.size
 like:vh8 st st'
 far:lo<=ia+ib
def Mid.le{st:SortSt}{out:Array Keyed}{ia ib lo lo2:Nat}{st':SortSt}(M:Mid L a b st out ia ib st' lo)(h:lo2<=lo):Mid L a b st out ia ib st' lo2:={M.m,M.ha,M.hb,M.like,Ap0 h M.far}
structure Two(prog:Program)(w:World)(A:Around)(E:Value->Shared->Prop)(s:Shared)(L:KeyKind)(knd:SortKind)(a b:Array Keyed)(st:SortSt):Prop where
 C:Cmp prog w A E s L knd
 ka:KeysOf L a
 kb:KeysOf L b
 ua:Up L a 0 a.size
 ub:Up L b 0 b.size
 hl:∀j,j<b.size->L.kle (KK L b j) (KK L a (a.size-1))
 hk:kindOf st=knd
noncomputable abbrev vm7(L:KeyKind)(a b:Array Keyed)(st:SortSt)(r:Array Keyed)(st':SortSt):Prop:=vh8 st st'/\vi8 L a b r.toList
def yv5(out:Array Keyed)(ia ib:Nat):(vf2 a b out ia ib).toList=out.toList++a.toList.drop ia++b.toList.drop ib:=by
 unfold vf2;rw[Bn0,Bn0,zg1 (Ae0 _),zg1 (Ae0 _),Bv0 'd',Bv0 'd']
def xu1(out:Array Keyed)(ia ib:Nat):(vi6 a b out ia ib).toList=out.toList++b.toList.drop ib++a.toList.drop ia:=by
 unfold vi6;rw[Bn0,Bn0,zg1 (Ae0 _),zg1 (Ae0 _),Bv0 'd',Bv0 'd']
section
variable{out:Array Keyed}{ia ib lo:Nat}{st':SortSt}(T:Two prog w A E s L knd a b st)
include T
def Two.dB(m:Mg L a b out.toList ia ib)(h:b.size<=ib)(l:vh8 st st'):vm7 L a b st (vf2 a b out ia ib) st':={l,by rw[yv5];exact m.doneB T.ua h}
def Two.dA(m:Mg L a b out.toList ia ib)(h:a.size<=ia)(l:vh8 st st'):vm7 L a b st (vf2 a b out ia ib) st':={l,by rw[yv5];exact m.doneA T.ub h}
def Two.dL(m:Mg L a b out.toList ia ib)(h:ia+1=a.size)(l:vh8 st st'):vm7 L a b st (vi6 a b out ia ib) st':={l,by rw[xu1];exact m.last T.ub h (by rw[show ia=a.size-1 by omega];exact T.hl)}
def Two.kind(l:vh8 st st'):kindOf st'=knd:=l.kind.trans T.hk
end
noncomputable abbrev S6:=Option (Array Keyed)×Array Keyed×Nat×Nat×Nat×Nat
noncomputable abbrev S7:=Option (Array Keyed)×Array Keyed×Nat×Nat×Nat×Nat×Nat
instance ub4(a b:Array Keyed)(mg:Nat)(c:S6):SM S6:=forIn [0:a.size+b.size] c λ_ r=>do
 let y <-elem' b r.2.2.2.1
 let x <-elem' a r.2.2.1
 let z <-lt' y x
 match z with
 | some t=>
   if t=true then do
    let y <-elem' b r.2.2.2.1
    if (r.2.2.2.1+1 == b.size)=true then pure (ForInStep.done (some (vf2 a b (r.2.1.push y) r.2.2.1 (r.2.2.2.1+1)),r.2.1.push y,r.2.2.1,r.2.2.2.1+1,0,r.2.2.2.2.2+1))
    else if r.2.2.2.2.2+1>=mg then pure (ForInStep.done (none,r.2.1.push y,r.2.2.1,r.2.2.2.1+1,0,r.2.2.2.2.2+1)) else pure (ForInStep.yield (none,r.2.1.push y,r.2.2.1,r.2.2.2.1+1,0,r.2.2.2.2.2+1))
   else do
    let x <-elem' a r.2.2.1
    if (r.2.2.1+1+1 == a.size)=true then pure (ForInStep.done (some (vi6 a b (r.2.1.push x) (r.2.2.1+1) r.2.2.2.1),r.2.1.push x,r.2.2.1+1,r.2.2.2.1,r.2.2.2.2.1+1,0))
    else if r.2.2.2.2.1+1>=mg then pure (ForInStep.done (none,r.2.1.push x,r.2.2.1+1,r.2.2.2.1,r.2.2.2.2.1+1,0)) else pure (ForInStep.yield (none,r.2.1.push x,r.2.2.1+1,r.2.2.2.1,r.2.2.2.2.1+1,0))
 | _=>pure (ForInStep.done (some (vf2 a b r.2.1 r.2.2.1 r.2.2.2.1),r.2.1,r.2.2.1,r.2.2.2.1,r.2.2.2.2.1,r.2.2.2.2.2))
def wk9(T:Two prog w A E s L knd a b st){out:Array Keyed}{ia ib lo mg ca cb:Nat}{st':SortSt}(M:Mid L a b st out ia ib st' lo){Q:S6->SortSt->Prop}(hr:∀r z st2,vm7 L a b st r st2->Q (some r,z) st2)(hn:∀out ia ib ca cb st2,Mid L a b st out ia ib st2 (lo+1)->Q (none,out,ia,ib,ca,cb) st2) :
 wpS 'r' A E s (ub4 a b mg (none,out,ia,ib,ca,cb)) Q st':=by
 unfold ub4;refine Af1 (I:=λy c st2=>∃out ia ib ca cb,c=(none,out,ia,ib,ca,cb)/\Mid L a b st out ia ib st2 (lo+y)) (λy c st2 hy1 hy2 hI=>?_) (λc st2 hI=>?_) ⟨out,ia,ib,ca,cb,rfl,M⟩
 ·obtain⟨out,ia,ib,ca,cb,e,M⟩:=hI
  subst e;have i1:=M.ha;have i2:=M.hb;have i3:=M.far;refine Ab1 (zd7 i2 (Ab1 (zd7 (show ia<a.size by omega) (Ab1 (yh6 T.C (T.kind M.like) T.kb T.ka i2 'o' ?_)))));show wpS _ _ _ _ (if L.blt (KK L b ib) (KK L a ia)=true then _ else _) _ _;cases hb:L.blt (KK L b ib) (KK L a ia)
  ·rw[if_neg Aq0]
   refine Ab1 (zd7 (show ia<a.size by omega) ?_);have m2:Mg L a b (out.push a[ia]).toList (ia+1) ib:=by
    rw[Array.toList_push];exact M.m.pushA T.ua 'o' λj g1 g2=>KeyOrd.kle_trans hb (T.ub ib j (An0 _) g1 g2)
   show wpS _ _ _ _ (if (ia+1+1 == a.size)=true then _ else _) _ _;by_cases h1:ia+1+1=a.size
   ·rw[if_pos (beq_iff_eq.mpr h1)]
    exact Ad1 (hr _ _ _ (T.dL m2 h1 M.like))
   ·rw[if_neg (λz=>h1 (beq_iff_eq.mp z))]
    show wpS _ _ _ _ (if ca+1>=mg then _ else _) _ _;have M2:Mid L a b st (out.push a[ia]) (ia+1) ib st2 (lo+(y+1)):={m2,'o',i2,M.like,'o'};by_cases h2:ca+1>=mg
    ·rw[if_pos h2]
     exact Ad1 (hn _ _ _ _ _ _ (M2.le 'o'))
    ·rw[if_neg h2]
     exact Ad1 {_,_,_,_,_,rfl,M2}
  ·rw[if_pos rfl]
   refine Ab1 (zd7 i2 ?_);have m2:Mg L a b (out.push b[ib]).toList ia (ib+1):=by
    rw[Array.toList_push];exact M.m.pushB T.ub i2 λj g1 g2=>KeyOrd.kle_trans (KeyOrd.kle_of_klt hb) (T.ua ia j (An0 _) g1 g2)
   show wpS _ _ _ _ (if (ib+1 == b.size)=true then _ else _) _ _;by_cases h1:ib+1=b.size
   ·rw[if_pos (beq_iff_eq.mpr h1)]
    exact Ad1 (hr _ _ _ (T.dB m2 (show b.size<=ib+1 by omega) M.like))
   ·rw[if_neg (λz=>h1 (beq_iff_eq.mp z))]
    show wpS _ _ _ _ (if cb+1>=mg then _ else _) _ _;have M2:Mid L a b st (out.push b[ib]) ia (ib+1) st2 (lo+(y+1)):={m2,i1,'o',M.like,'o'};by_cases h2:cb+1>=mg
    ·rw[if_pos h2]
     exact Ad1 (hn _ _ _ _ _ _ (M2.le 'o'))
    ·rw[if_neg h2]
     exact Ad1 {_,_,_,_,_,rfl,M2}
 ·obtain⟨out,ia,ib,ca,cb,e,M⟩:=hI
  have:=M.ha;have:=M.hb;have:=M.far;omega
instance Gq(L:KeyKind)(a b:Array Keyed)(st:SortSt)(lo:Nat)(r:ForInStep S7)(st':SortSt):Prop:=
 match r with
 | .done c=>(∃q z,c=(some q,z)/\vm7 L a b st q st')\/∃out ia ib mg ca cb,c=(none,out,ia,ib,mg,ca,cb)/\Mid L a b st out ia ib st' lo
 | .yield c=>∃out ia ib mg ca cb,c=(none,out,ia,ib,mg,ca,cb)/\Mid L a b st out ia ib st' lo
instance G3(a b out:Array Keyed)(ia ib mg ca cb:Nat):SM (ForInStep S7):=do
 let x <-elem' a ia
 if (ia+1+1 == a.size)=true then pure (ForInStep.done ((some (vi6 a b (out.push x) (ia+1) ib),out.push x,ia+1,ib,mg,ca,cb):S7))
 else if (decide (ca<7)&&decide (cb<7))=true then pure (ForInStep.done ((none,out.push x,ia+1,ib,mg,ca,cb):S7)) else pure (ForInStep.yield ((none,out.push x,ia+1,ib,mg,ca,cb):S7))
def vx6(T:Two prog w A E s L knd a b st){out:Array Keyed}{ia ib lo mg ca cb:Nat}{st':SortSt}(m:Mg L a b out.toList ia ib)(i1:ia+1<a.size)(i2:ib<b.size)(l:vh8 st st')(hlo:lo<=ia+ib+1)(hb:L.blt (KK L b ib) (KK L a ia)=false) :
 wpS 'r' A E s (G3 a b out ia ib mg ca cb) (Gq L a b st lo) st':=by
 unfold G3;refine Ab1 (zd7 (show ia<a.size by omega) ?_);have m2:Mg L a b (out.push a[ia]).toList (ia+1) ib:=by
  rw[Array.toList_push];exact m.pushA T.ua 'o' λj g1 g2=>KeyOrd.kle_trans hb (T.ub ib j (An0 _) g1 g2)
 by_cases h1:ia+1+1=a.size
 ·rw[if_pos (beq_iff_eq.mpr h1)]
  exact Ad1 (.inl {_,_,rfl,T.dL m2 h1 l})
 ·rw[if_neg (λz=>h1 (beq_iff_eq.mp z))]
  have M2:Mid L a b st (out.push a[ia]) (ia+1) ib st' lo:={m2,'o',i2,l,'o'};split
  ·exact Ad1 (.inr {_,_,_,_,_,_,rfl,M2})
  ·exact Ad1 {_,_,_,_,_,_,rfl,M2}
instance G2(a b out:Array Keyed)(ia ib mg ca cb:Nat):SM (ForInStep S7):=do
 let y <-elem' b ib
 if (ib+1 == b.size)=true then pure (ForInStep.done ((some (vf2 a b (out.push y) ia (ib+1)),out.push y,ia,ib+1,mg,ca,cb):S7))
 else do
  let x <-elem' a ia
  let k <-gal true x b (ib+1) (b.size-(ib+1)) 0
  match k with
  | some k=>
    if k>0 then
     if (ib+1+k == b.size)=true then pure (ForInStep.done ((some (vf2 a b (out.push y++b.extract (ib+1) (ib+1+k)) ia (ib+1+k)),out.push y++b.extract (ib+1) (ib+1+k),ia,ib+1+k,mg,ca,k):S7))
     else G3 a b (out.push y++b.extract (ib+1) (ib+1+k)) ia (ib+1+k) mg ca k
    else G3 a b (out.push y) ia (ib+1) mg ca k
  | _=>pure (ForInStep.done ((some (vf2 a b (out.push y) ia (ib+1)),out.push y,ia,ib+1,mg,ca,cb):S7))
def vx7(T:Two prog w A E s L knd a b st){out:Array Keyed}{ia ib lo mg ca cb:Nat}{st':SortSt}(m:Mg L a b out.toList ia ib)(i1:ia+1<a.size)(i2:ib<b.size)(l:vh8 st st')(hlo:lo<=ia+ib+1)(hb:∀j,ia<=j->j<a.size->L.kle (KK L b ib) (KK L a j)) :
 wpS 'r' A E s (G2 a b out ia ib mg ca cb) (Gq L a b st lo) st':=by
 unfold G2;refine Ab1 (zd7 i2 ?_);have m2:Mg L a b (out.push b[ib]).toList ia (ib+1):=by
  rw[Array.toList_push];exact m.pushB T.ub i2 hb
 by_cases h1:ib+1=b.size
 ·rw[if_pos (beq_iff_eq.mpr h1)]
  exact Ad1 (.inl {_,_,rfl,T.dB m2 'o' l})
 rw[if_neg (λz=>h1 (beq_iff_eq.mp z))];refine Ab1 (zd7 (show ia<a.size by omega) (Ab1 (yh8 (ul0 T.C T.ka T.kb T.ub 'o' 'o') (T.kind l) 'o' λk hk hlt hge=>?_)));show wpS _ _ _ _ (if k>0 then _ else _) _ _;by_cases hk0:k>0
 ·rw[if_pos hk0]
  have m3:Mg L a b (out.push b[ib]++b.extract (ib+1) (ib+1+k)).toList ia (ib+1+k):=by
   rw[Bn0,zg1 'o',show ib+1+k-(ib+1)=k by omega];exact m2.takeB T.ub k 'o' λi hi j g1 g2=>KeyOrd.kle_trans (KeyOrd.kle_of_klt (hlt i hi)) (T.ua ia j (An0 _) g1 g2)
  by_cases h2:ib+1+k=b.size
  ·rw[if_pos (beq_iff_eq.mpr h2)]
   exact Ad1 (.inl {_,_,rfl,T.dB m3 'o' l})
  ·rw[if_neg (λz=>h2 (beq_iff_eq.mp z))]
   exact vx6 T m3 i1 'o' l 'o' (hge k (Ae0 _) 'o')
 ·rw[if_neg hk0]
  have hk00:k=0:=by omega
  subst hk00;exact vx6 T m2 i1 'o' l 'o' (hge 0 (Ae0 _) 'o')
instance G1(a b out:Array Keyed)(ia ib mg ca cb:Nat):SM (ForInStep S7):=do
 vq0 mg
 let y <-elem' b ib
 let k <-gal false y a ia (a.size-ia) 0
 match k with
 | some k=>
   if k>0 then
    if (ia+k+1 == a.size)=true then pure (ForInStep.done ((some (vi6 a b (out++a.extract ia (ia+k)) (ia+k) ib),out++a.extract ia (ia+k),ia+k,ib,mg,k,cb):S7))
    else if (ia+k == a.size)=true then pure (ForInStep.done ((some (vf2 a b (out++a.extract ia (ia+k)) (ia+k) ib),out++a.extract ia (ia+k),ia+k,ib,mg,k,cb):S7))
    else G2 a b (out++a.extract ia (ia+k)) (ia+k) ib mg k cb
   else G2 a b out ia ib mg k cb
 | _=>pure (ForInStep.done ((some (vf2 a b out ia ib),out,ia,ib,mg,ca,cb):S7))
def uc6(T:Two prog w A E s L knd a b st){out:Array Keyed}{ia ib lo mg ca cb:Nat}{st':SortSt}(M:Mid L a b st out ia ib st' lo):wpS 'r' A E s (G1 a b out ia ib mg ca cb) (Gq L a b st (lo+1)) st':=by
 unfold G1;have i1:=M.ha;have i2:=M.hb;have i3:=M.far;refine Ab1 (yl1 M.like λst2 l=>?_);refine Ab1 (zd7 i2 (Ab1 (yh8 (uk9 T.C T.ka T.kb T.ua 'o' i2) (T.kind l) 'o' λk hk hlt hge=>?_)));show wpS _ _ _ _ (if k>0 then _ else _) _ _;have ab:∀j,ia+k<=j->j<a.size->L.kle (KK L b ib) (KK L a j):=λj g1 g2=>by
  have:=hge (j-ia) 'o' 'o';rw[show ia+(j-ia)=j by omega] at this;exact KeyOrd.kle_of_klt (show L.blt (KK L b ib) (KK L a j)=true by simpa using this)
 by_cases hk0:k>0
 ·rw[if_pos hk0]
  have m3:Mg L a b (out++a.extract ia (ia+k)).toList (ia+k) ib:=by
   rw[Bn0,zg1 'o',show ia+k-ia=k by omega];refine M.m.takeA T.ua k 'o' λi hi j g1 g2=>?_
   have:=hlt i hi;exact KeyOrd.kle_trans (show L.blt (KK L b ib) (KK L a (ia+i))=false by simpa using this) (T.ub ib j (An0 _) g1 g2)
  by_cases h1:ia+k+1=a.size
  ·rw[if_pos (beq_iff_eq.mpr h1)]
   exact Ad1 (.inl {_,_,rfl,T.dL m3 h1 l})
  rw[if_neg (λz=>h1 (beq_iff_eq.mp z))];by_cases h2:ia+k=a.size
  ·rw[if_pos (beq_iff_eq.mpr h2)]
   exact Ad1 (.inl {_,_,rfl,T.dA m3 'o' l})
  rw[if_neg (λz=>h2 (beq_iff_eq.mp z))];exact vx7 T m3 'o' i2 l 'o' ab
 ·rw[if_neg hk0]
  have hk00:k=0:=by omega
  subst hk00;exact vx7 T M.m i1 i2 l 'o' ab
instance ub9(a b:Array Keyed)(c:S7):SM S7:=forIn [0:a.size+b.size] c λ_ r=>
 if r.2.2.2.2.1>1 then G1 a b r.2.1 r.2.2.1 r.2.2.2.1 (r.2.2.2.2.1-1) r.2.2.2.2.2.1 r.2.2.2.2.2.2 else G1 a b r.2.1 r.2.2.1 r.2.2.2.1 r.2.2.2.2.1 r.2.2.2.2.2.1 r.2.2.2.2.2.2
noncomputable abbrev S5:=Option (Array Keyed)×Array Keyed×Nat×Nat×Nat
instance vs6(a b:Array Keyed)(r:S5):SM (ForInStep S5):=do
 let c <-ub4 a b r.2.2.2.2 (none,r.2.1,r.2.2.1,r.2.2.2.1,0,0)
 match c.1 with
 | some q=>pure (ForInStep.done (some q,c.2.1,c.2.2.1,c.2.2.2.1,r.2.2.2.2))
 | none=>do
   rule "list.sort.gallop"
   let d <-ub9 a b (none,c.2.1,c.2.2.1,c.2.2.2.1,r.2.2.2.2+1,c.2.2.2.2.1,c.2.2.2.2.2)
   match d.1 with
   | some q=>pure (ForInStep.done (some q,d.2.1,d.2.2.1,d.2.2.2.1,d.2.2.2.2.1))
   | none=>do
     vq0 (d.2.2.2.2.1+1)
     pure (ForInStep.yield (none,d.2.1,d.2.2.1,d.2.2.2.1,d.2.2.2.2.1+1))
instance un7(c:S5):SM (Array Keyed):=match c.1 with
 | some q=>pure q
 | none=>unsupported "internal:list.sort.merge-bound"
open H in
def wp1(a b:Array Keyed):mlo a b=(do
 rule "list.sort.merge-lo"
 let y <-elem' b 0
 if (1 == b.size)=true then pure (vf2 a b #[y] 0 1)
 else if (0+1 == a.size)=true then pure (vi6 a b #[y] 0 1)
 else do
  let st <-get
  let c <-forIn [0:a.size+b.size] ((none,#[y],0,1,gallopOf st):S5) λ_ r=>vs6 a b r
  un7 c):=by
 rw[wx2];refine congrArg _ (funext λ_=>congrArg _ (funext λy=>?_));dsimp only;refine congrArg _ (congrArg _ (congrArg _ (funext λst=>?_)));refine congr (congrArg bind (congrArg _ (funext λ_=>funext λr=>?_))) ?_
 ·unfold vs6
  refine congr (congrArg bind ?_) (funext λc=>?_)
  ·unfold ub4;rfl
  ·obtain⟨c1,c2⟩:=c
   cases c1 with
   | some q=>rfl
   | none=>
     dsimp only;refine congrArg _ (funext λ_=>?_);refine congr (congrArg bind ?_) (funext λd=>?_)
     ·unfold ub9
      refine congrArg _ (funext λ_=>funext λr=>?_);unfold G1 G2 G3;by_cases hm:r.2.2.2.2.1>1
      ·first | rewrite [if_pos hm,if_pos hm] | rewrite [if_pos hm]
       refine congrArg _ (funext λ_=>congrArg _ (funext λ_=>congrArg _ (funext λk=>?_)));cases k with
       | none=>rfl
       | some k=>rfl
      ·first | rewrite [if_neg hm,if_neg hm] | rewrite [if_neg hm]
       refine congrArg _ (funext λ_=>congrArg _ (funext λ_=>congrArg _ (funext λk=>?_)));cases k with
       | none=>rfl
       | some k=>rfl
     ·obtain⟨d1,d2⟩:=d
      cases d1<;>rfl
 ·funext c
  obtain⟨c1,c2⟩:=c;cases c1<;>rfl
def wl4(T:Two prog w A E s L knd a b st){out:Array Keyed}{ia ib lo mg ca cb:Nat}{st':SortSt}(M:Mid L a b st out ia ib st' lo){Q:S7->SortSt->Prop}(h1:∀q z st3,vm7 L a b st q st3->Q (some q,z) st3)(h2:∀out ia ib mg ca cb st3,Mid L a b st out ia ib st3 lo->Q (none,out,ia,ib,mg,ca,cb) st3):wpS 'r' A E s (ub9 a b (none,out,ia,ib,mg,ca,cb)) Q st':=by
 unfold ub9;refine Af1 (I:=λy c st3=>∃out ia ib mg ca cb,c=(none,out,ia,ib,mg,ca,cb)/\Mid L a b st out ia ib st3 (lo+y)) (λy c st3 hy1 hy2 hI=>?_) (λc st3 hI=>?_) ⟨out,ia,ib,mg,ca,cb,rfl,M⟩
 ·obtain⟨out,ia,ib,mg,ca,cb,e,M⟩:=hI
  subst e;have fin:∀(mg:Nat),wpS 'r' A E s (G1 a b out ia ib mg ca cb) (λr st4=>match r with | .done c'=>Q c' st4 | .yield c'=>∃out ia ib mg ca cb,c'=(none,out,ia,ib,mg,ca,cb)/\Mid L a b st out ia ib st4 (lo+(y+1))) st3:=λmg=>Al1 (uc6 T M) λr st4 hq=>by
   cases r with
   | done c'=>
     rcases hq with⟨q,z,e,f⟩ | ⟨out,ia,ib,mg,ca,cb,e,M⟩
     ·subst e;exact h1 q z st4 f
     ·subst e;exact h2 _ _ _ _ _ _ st4 (M.le 'o')
   | yield c'=>exact hq
  show wpS _ _ _ _ (if mg>1 then G1 a b out ia ib (mg-1) ca cb else G1 a b out ia ib mg ca cb) _ _;by_cases hm:mg>1
  ·rw[if_pos hm];exact Al1 (fin (mg-1)) λr st4 hq=>by cases r<;>exact hq
  ·rw[if_neg hm];exact Al1 (fin mg) λr st4 hq=>by cases r<;>exact hq
 ·obtain⟨out,ia,ib,mg,ca,cb,e,M⟩:=hI
  have:=M.ha;have:=M.hb;have:=M.far;omega
def wt1(T:Two prog w A E s L knd a b st)(ha:0<a.size)(hb:0<b.size)(hf:L.kle (KK L b 0) (KK L a 0)){Q:Array Keyed->SortSt->Prop}(h:∀r st',vh8 st st'->vi8 L a b r.toList->Q r st'):wpS 'r' A E s (mlo a b) Q st:=by
 rw[wp1];refine Ab1 (wpS_lift (Aj1 {rfl,?_}));refine Ab1 (zd7 hb ?_);have m0:Mg L a b [b[0]] 0 1:=by
  have z:Mg L a b [] 0 0:={'d',List.Pairwise.nil,λx hx=>absurd hx 'd',λx hx=>absurd hx 'd'};exact z.pushB T.ub hb λj _ h2=>KeyOrd.kle_trans hf (T.ua 0 j (Ae0 _) (An0 _) h2)
 by_cases h1:(1 == b.size)=true
 ·rw[if_pos h1]
  have f:=T.dB (out:=#[b[0]]) m0 (by have:=beq_iff_eq.mp h1;omega) vh8.refl;exact Ad1 (h _ _ f.1 f.2)
 rw[if_neg h1];by_cases h2:(0+1 == a.size)=true
 ·rw[if_pos h2]
  have f:=T.dL (out:=#[b[0]]) m0 (by simpa using h2) vh8.refl;exact Ad1 (h _ _ f.1 f.2)
 rw[if_neg h2];have hb1:1<b.size:=by
  have:¬1=b.size:=by simpa using h1
  omega
 have ha1:1<a.size:=by
  have:¬1=a.size:=by simpa using h2
  omega
 refine Ab1 (wpS_get ?_);refine Ab1 (Al1 (Af1 (I:=λx c st'=>∃out ia ib mg,c=(none,out,ia,ib,mg)/\Mid L a b st out ia ib st' (1+x)) (Q:=λc st'=>∃r z,c=(some r,z)/\vm7 L a b st r st') (λx c st' hx1 hx2 hI=>?_) (λc st' hI=>?_) {#[b[0]],0,1,_,rfl,m0,'o','o',vh8.refl,'o'}) λc st' hI=>?_)
 ·obtain⟨out,ia,ib,mg,e,M⟩:=hI
  subst e;unfold vs6;refine Ab1 (wk9 T M (λr z st2 f=>?_) λout ia ib ca cb st2 M2=>?_)
  ·exact Ad1 {r,_,rfl,f}
  ·refine Ab1 (wpS_lift (Aj1 {rfl,?_}))
   refine Ab1 (wl4 T M2 (λq z st3 f=>?_) λout ia ib mg ca cb st3 M3=>?_)
   ·exact Ad1 {q,_,rfl,f}
   ·exact Ab1 (yl1 M3.like λst4 l=>Ad1 {out,ia,ib,_,rfl,M3.m,M3.ha,M3.hb,l,M3.far})
 ·obtain⟨out,ia,ib,mg,e,M⟩:=hI
  have:=M.ha;have:=M.hb;have:=M.far;omega
 ·obtain⟨r,z,e,f⟩:=hI
  subst e;exact Ad1 (h _ _ f.1 f.2)
end
instance mhi:Array Keyed->Array Keyed->SM (Array Keyed):=sortPriv% PySem.Builtin.mergeHi
noncomputable abbrev vf1(a b out:Array Keyed)(na nb:Nat):Array Keyed:=a.extract 0 na++b.extract 0 nb++out.reverse
noncomputable abbrev vp7(a b out:Array Keyed)(na nb:Nat):Array Keyed:=b.extract 0 nb++a.extract 0 na++out.reverse
def wx3(a b:Array Keyed):mhi a b=(do
 rule "list.sort.merge-hi"
 let mut na:=a.size-1
 let mut nb:=b.size
 let mut out:Array Keyed:=#[<-elem' a na]
 if na == 0 then return vf1 a b out na nb
 if nb == 1 then return vp7 a b out na nb
 let mut mg:=gallopOf (<-get)
 for _ in [0:a.size+b.size] do
  let mut ca:=0
  let mut cb:=0
  for _ in [0:a.size+b.size] do
   let some y <-lt' (<-elem' b (nb-1)) (<-elem' a (na-1)) | return vf1 a b out na nb
   if y then
    na:=na-1
    out:=out.push (<-elem' a na)
    ca:=ca+1
    cb:=0
    if na == 0 then return vf1 a b out na nb
    if ca>=mg then break
   else
    nb:=nb-1
    out:=out.push (<-elem' b nb)
    cb:=cb+1
    ca:=0
    if nb == 1 then return vp7 a b out na nb
    if cb>=mg then break
  rule "list.sort.gallop"
  mg:=mg+1
  for _ in [0:a.size+b.size] do
   if mg>1 then mg:=mg-1
   vq0 mg
   let some p <-gal false (<-elem' b (nb-1)) a 0 na (na-1) | return vf1 a b out na nb
   ca:=na-p
   if na-p>0 then
    out:=out++(a.extract p na).reverse
    na:=p
    if na == 0 then return vf1 a b out na nb
   nb:=nb-1
   out:=out.push (<-elem' b nb)
   if nb == 1 then return vp7 a b out na nb
   let some p <-gal true (<-elem' a (na-1)) b 0 nb (nb-1) | return vf1 a b out na nb
   cb:=nb-p
   if nb-p>0 then
    out:=out++(b.extract p nb).reverse
    nb:=p
    if nb == 1 then return vp7 a b out na nb
    if nb == 0 then return vf1 a b out na nb
   na:=na-1
   out:=out.push (<-elem' a na)
   if na == 0 then return vf1 a b out na nb
   if ca<7&&cb<7 then break
  mg:=mg+1
  vq0 mg
 unsupported "internal:list.sort.merge-bound"):=rfl
section
variable{L:KeyKind}{a b:Array Keyed}{t:List Keyed}{na nb:Nat}
structure Mh(L:KeyKind)(a b:Array Keyed)(t:List Keyed)(na nb:Nat):Prop where
 perm:((a.toList.take na++b.toList.take nb)++t).Perm (a.toList++b.toList)
 up:t.Pairwise (le L)
 la:∀x∈t,∀i,i<na->L.kle (KK L a i) (ky L x)
 lb:∀x∈t,∀i,i<nb->L.kle (KK L b i) (ky L x)
def yc9{xs:Array Keyed}{i:Nat}(h:i<xs.size):xs.toList.take (i+1)=xs.toList.take i++[xs[i]]:=by
 rw[Av0];simp[Bc0 h]
def Mh.pushA(m:Mh L a b t (na+1) nb)(ua:Up L a 0 a.size)(hi:na<a.size)(h:∀j,j<nb->L.kle (KK L b j) (KK L a na)):Mh L a b (a[na]::t) na nb:=by
 refine{?_,Bm0.mpr {λz hz=>?_,m.up},λx hx i h1=>?_,λx hx i h1=>?_}
 ·have:=m.perm
  rw[yc9 hi] at this;refine List.Perm.trans ?_ this;rw[Ao0,Ao0,Ao0];exact List.Perm.append_left _ (List.perm_middle (l₁:=b.toList.take nb))
 ·have:=m.la z hz na 'o'
  rwa [vd7 hi] at this
 ·rcases Aj0.mp hx with hx | hx
  ·rw[hx,<-vd7 hi]
   exact ua i na (An0 _) 'o' hi
  ·exact m.la x hx i 'o'
 ·rcases Aj0.mp hx with hx | hx
  ·rw[hx,<-vd7 hi]
   exact h i h1
  ·exact m.lb x hx i h1
def Mh.pushB(m:Mh L a b t na (nb+1))(ub:Up L b 0 b.size)(hi:nb<b.size)(h:∀j,j<na->L.kle (KK L a j) (KK L b nb)):Mh L a b (b[nb]::t) na nb:=by
 refine{?_,Bm0.mpr {λz hz=>?_,m.up},λx hx i h1=>?_,λx hx i h1=>?_}
 ·have:=m.perm
  rw[yc9 hi] at this;simpa [Ao0] using this
 ·have:=m.lb z hz nb 'o'
  rwa [vd7 hi] at this
 ·rcases Aj0.mp hx with hx | hx
  ·rw[hx,<-vd7 hi]
   exact h i h1
  ·exact m.la x hx i h1
 ·rcases Aj0.mp hx with hx | hx
  ·rw[hx,<-vd7 hi]
   exact ub i nb (An0 _) 'o' hi
  ·exact m.lb x hx i 'o'
def xr3{xs:Array Keyed}{i k:Nat}(h:i<xs.size):(xs.toList.drop i).take (k+1)=xs[i]::(xs.toList.drop (i+1)).take k:=by
 rw[yo9 h,List.take_succ_cons]
theorem Mh.takeA(ua:Up L a 0 a.size):∀(k p:Nat) (t:List Keyed),Mh L a b t (p+k) nb->p+k<=a.size->(∀i,p<=i->i<p+k->∀j,j<nb->L.kle (KK L b j) (KK L a i))->Mh L a b ((a.toList.drop p).take k++t) p nb
 | 0,p,t,m,_,_=>by simpa using m
 | k+1,p,t,m,hk,h=>by
   have ih:=Mh.takeA ua k (p+1) t (by rw[show p+1+k=p+(k+1) by omega];exact m) 'o' λi h1 h2=>h i 'o' 'o'
   have:=ih.pushA ua 'o' (h p (Ae0 _) 'o');rw[xr3 'o'];exact this
theorem Mh.takeB(ub:Up L b 0 b.size):∀(k p:Nat) (t:List Keyed),Mh L a b t na (p+k)->p+k<=b.size->(∀i,p<=i->i<p+k->∀j,j<na->L.kle (KK L a j) (KK L b i))->Mh L a b ((b.toList.drop p).take k++t) na p
 | 0,p,t,m,_,_=>by simpa using m
 | k+1,p,t,m,hk,h=>by
   have ih:=Mh.takeB ub k (p+1) t (by rw[show p+1+k=p+(k+1) by omega];exact m) 'o' λi h1 h2=>h i 'o' 'o'
   have:=ih.pushB ub 'o' (h p (Ae0 _) 'o');rw[xr3 'o'];exact this
def yw9{xs:Array Keyed}{i:Nat}(u:Up L xs 0 xs.size):(xs.toList.take i).Pairwise (le L):=(yl5 (i:=0) u).sublist (List.take_sublist _ _)
def zw9{xs:Array Keyed}{i:Nat}{x:Keyed}(h:x∈xs.toList.take i):∃j,j<i/\j<xs.size/\ky L x=KK L xs j:=by
 obtain⟨j,hj,e⟩:=List.getElem_of_mem h;rw[Be0,Aw0] at hj;refine{j,'o','o',?_};rw[vd7 'o',<-e];simp[List.getElem_take]
def Mh.doneB(m:Mh L a b t na 0)(ua:Up L a 0 a.size):vi8 L a b (a.toList.take na++b.toList.take 0++t):=by
 refine{m.perm,?_};rw[List.take_zero,Bh0];refine Bl0.mpr {yw9 ua,m.up,λx hx y hy=>?_};obtain⟨j,h1,h2,e⟩:=zw9 (L:=L) hx;show L.kle (ky L x) (ky L y);rw[e];exact m.la y hy j h1
def Mh.doneA(m:Mh L a b t 0 nb)(ub:Up L b 0 b.size):vi8 L a b (a.toList.take 0++b.toList.take nb++t):=by
 refine{m.perm,?_};rw[List.take_zero,List.nil_append];refine Bl0.mpr {yw9 ub,m.up,λx hx y hy=>?_};obtain⟨j,h1,h2,e⟩:=zw9 (L:=L) hx;show L.kle (ky L x) (ky L y);rw[e];exact m.lb y hy j h1
def Mh.first(m:Mh L a b t na 1)(ua:Up L a 0 a.size)(hb:0<b.size)(hf:∀j,j<a.size->L.kle (KK L b 0) (KK L a j)):vi8 L a b (b.toList.take 1++a.toList.take na++t):=by
 have e:b.toList.take 1=[b[0]]:=by rw[yc9 hb];simp
 refine{?_,?_}
 ·refine List.Perm.trans (List.Perm.append_right _ List.perm_append_comm) m.perm
 ·rw[e,Ao0,List.singleton_append]
  refine Bm0.mpr {λy hy=>?_,Bl0.mpr {yw9 ua,m.up,λx hx y hy=>?_}}
  ·show L.kle (ky L b[0]) (ky L y)
   rw[<-vd7 hb];rcases Ar0.mp hy with hy | hy
   ·obtain⟨j,h1,h2,e⟩:=zw9 (L:=L) hy
    rw[e];exact hf j h2
   ·exact m.lb y hy 0 'o'
  ·obtain⟨j,h1,h2,e⟩:=zw9 (L:=L) hx
   show L.kle (ky L x) (ky L y);rw[e];exact m.la y hy j h1
end
section
variable{prog:Program}{w:World}{A:Around}{E:Value->Shared->Prop}{s:Shared}{L:KeyKind}{knd:SortKind}{st:SortSt}{a b:Array Keyed}
structure Hid(L:KeyKind)(a b:Array Keyed)(st:SortSt)(na nb:Nat)(out:Array Keyed)(st':SortSt)(lo:Nat):Prop where
 m:Mh L a b out.toList.reverse na nb
 ha:0<na
 hb:1<nb
 la:na<=a.size
 lb:nb<=b.size
 like:vh8 st st'
 far:na+nb+lo<=a.size+b.size
def Hid.le{st:SortSt}{out:Array Keyed}{na nb lo lo2:Nat}{st':SortSt}(M:Hid L a b st na nb out st' lo)(h:lo2<=lo):Hid L a b st na nb out st' lo2:={M.m,M.ha,M.hb,M.la,M.lb,M.like,by have:=M.far;omega}
def yk1(out:Array Keyed){na nb:Nat}(ha:na<=a.size)(hb:nb<=b.size):(vf1 a b out na nb).toList=a.toList.take na++b.toList.take nb++out.toList.reverse:=by
 unfold vf1;rw[Bn0,Bn0,zg1 ha,zg1 hb,Array.toList_reverse];simp
def xx2(out:Array Keyed){na nb:Nat}(ha:na<=a.size)(hb:nb<=b.size):(vp7 a b out na nb).toList=b.toList.take nb++a.toList.take na++out.toList.reverse:=by
 unfold vp7;rw[Bn0,Bn0,zg1 ha,zg1 hb,Array.toList_reverse];simp
structure Tw(prog:Program)(w:World)(A:Around)(E:Value->Shared->Prop)(s:Shared)(L:KeyKind)(knd:SortKind)(a b:Array Keyed)(st:SortSt):Prop extends Two prog w A E s L knd a b st where
 hf:∀j,j<a.size->L.kle (KK L b 0) (KK L a j)
section
variable{out:Array Keyed}{na nb lo:Nat}{st':SortSt}(T:Tw prog w A E s L knd a b st)
include T
def Tw.dB(m:Mh L a b out.toList.reverse na nb)(ha:na<=a.size)(h:nb=0)(l:vh8 st st'):vm7 L a b st (vf1 a b out na nb) st':={l,by subst h;rw[yk1 _ ha (An0 _)];exact m.doneB T.ua}
def Tw.dA(m:Mh L a b out.toList.reverse na nb)(hb:nb<=b.size)(h:na=0)(l:vh8 st st'):vm7 L a b st (vf1 a b out na nb) st':={l,by subst h;rw[yk1 _ (An0 _) hb];exact m.doneA T.ub}
def Tw.dF(m:Mh L a b out.toList.reverse na nb)(ha:na<=a.size)(hb:nb<=b.size)(h:nb=1)(l:vh8 st st'):vm7 L a b st (vp7 a b out na nb) st':={l,by subst h;rw[xx2 _ ha hb];exact m.first T.ua hb T.hf}
end
def xc8(out:Array Keyed)(x:Keyed):(out.push x).toList.reverse=x::out.toList.reverse:=by simp
def xo9(out:Array Keyed){xs:Array Keyed}{p q:Nat}(h:q<=xs.size):(out++(xs.extract p q).reverse).toList.reverse=(xs.toList.drop p).take (q-p)++out.toList.reverse:=by
 rw[Bn0,Array.toList_reverse,zg1 h,List.reverse_append,List.reverse_reverse]
section
variable{out:Array Keyed}{na nb lo:Nat}{st':SortSt}(T:Tw prog w A E s L knd a b st)
include T
def Tw.putA(m:Mh L a b out.toList.reverse na nb)(h0:0<na)(ha:na<=a.size)(h:∀j,j<nb->L.kle (KK L b j) (KK L a (na-1))):Mh L a b (out.push (a[na-1]'('o'))).toList.reverse (na-1) nb:=by
 obtain⟨n,rfl⟩:∃n,na=n+1:={na-1,'o'};rw[xc8];exact m.pushA T.ua (show n<a.size by omega) h
def Tw.putB(m:Mh L a b out.toList.reverse na nb)(h0:0<nb)(hb:nb<=b.size)(h:∀j,j<na->L.kle (KK L a j) (KK L b (nb-1))):Mh L a b (out.push (b[nb-1]'('o'))).toList.reverse na (nb-1):=by
 obtain⟨n,rfl⟩:∃n,nb=n+1:={nb-1,'o'};rw[xc8];exact m.pushB T.ub (show n<b.size by omega) h
def Tw.manyA(m:Mh L a b out.toList.reverse na nb){p:Nat}(hp:p<=na)(ha:na<=a.size)(h:∀i,p<=i->i<na->∀j,j<nb->L.kle (KK L b j) (KK L a i)):Mh L a b (out++(a.extract p na).reverse).toList.reverse p nb:=by
 rw[xo9 out ha];exact Mh.takeA T.ua (na-p) p _ (by rw[show p+(na-p)=na by omega];exact m) 'o' λi h1 h2=>h i h1 'o'
def Tw.manyB(m:Mh L a b out.toList.reverse na nb){p:Nat}(hp:p<=nb)(hb:nb<=b.size)(h:∀i,p<=i->i<nb->∀j,j<na->L.kle (KK L a j) (KK L b i)):Mh L a b (out++(b.extract p nb).reverse).toList.reverse na p:=by
 rw[xo9 out hb];exact Mh.takeB T.ub (nb-p) p _ (by rw[show p+(nb-p)=nb by omega];exact m) 'o' λi h1 h2=>h i h1 'o'
end
noncomputable abbrev H6:=Option (Array Keyed)×Nat×Nat×Array Keyed×Nat×Nat
noncomputable abbrev H7:=Option (Array Keyed)×Nat×Nat×Array Keyed×Nat×Nat×Nat
instance vr0(a b:Array Keyed)(mg:Nat)(c:H6):SM H6:=forIn [0:a.size+b.size] c λ_ r=>do
 let y <-elem' b (r.2.2.1-1)
 let x <-elem' a (r.2.1-1)
 let z <-lt' y x
 match z with
 | some t=>
   if t=true then do
    let x <-elem' a (r.2.1-1)
    if (r.2.1-1 == 0)=true then pure (ForInStep.done (some (vf1 a b (r.2.2.2.1.push x) (r.2.1-1) r.2.2.1),r.2.1-1,r.2.2.1,r.2.2.2.1.push x,r.2.2.2.2.1+1,0))
    else if r.2.2.2.2.1+1>=mg then pure (ForInStep.done (none,r.2.1-1,r.2.2.1,r.2.2.2.1.push x,r.2.2.2.2.1+1,0)) else pure (ForInStep.yield (none,r.2.1-1,r.2.2.1,r.2.2.2.1.push x,r.2.2.2.2.1+1,0))
   else do
    let y <-elem' b (r.2.2.1-1)
    if (r.2.2.1-1 == 1)=true then pure (ForInStep.done (some (vp7 a b (r.2.2.2.1.push y) r.2.1 (r.2.2.1-1)),r.2.1,r.2.2.1-1,r.2.2.2.1.push y,0,r.2.2.2.2.2+1))
    else if r.2.2.2.2.2+1>=mg then pure (ForInStep.done (none,r.2.1,r.2.2.1-1,r.2.2.2.1.push y,0,r.2.2.2.2.2+1)) else pure (ForInStep.yield (none,r.2.1,r.2.2.1-1,r.2.2.2.1.push y,0,r.2.2.2.2.2+1))
 | _=>pure (ForInStep.done (some (vf1 a b r.2.2.2.1 r.2.1 r.2.2.1),r.2.1,r.2.2.1,r.2.2.2.1,r.2.2.2.2.1,r.2.2.2.2.2))
def wb6(T:Tw prog w A E s L knd a b st){out:Array Keyed}{na nb lo mg ca cb:Nat}{st':SortSt}(M:Hid L a b st na nb out st' lo){Q:H6->SortSt->Prop}(hr:∀r z st2,vm7 L a b st r st2->Q (some r,z) st2)(hn:∀out na nb ca cb st2,Hid L a b st na nb out st2 (lo+1)->Q (none,na,nb,out,ca,cb) st2) :
 wpS 'r' A E s (vr0 a b mg (none,na,nb,out,ca,cb)) Q st':=by
 unfold vr0;refine Af1 (I:=λy c st2=>∃out na nb ca cb,c=(none,na,nb,out,ca,cb)/\Hid L a b st na nb out st2 (lo+y)) (λy c st2 hy1 hy2 hI=>?_) (λc st2 hI=>?_) ⟨out,na,nb,ca,cb,rfl,M⟩
 ·obtain⟨out,na,nb,ca,cb,e,M⟩:=hI
  subst e;have i1:=M.ha;have i2:=M.hb;have i3:=M.far;have i4:=M.la;have i5:=M.lb;refine Ab1 (zd7 (show nb-1<b.size by omega) (Ab1 (zd7 (show na-1<a.size by omega) (Ab1 (yh6 T.C (T.kind M.like) T.kb T.ka 'o' 'o' ?_)))));show wpS _ _ _ _ (if L.blt (KK L b (nb-1)) (KK L a (na-1))=true then _ else _) _ _;cases hb:L.blt (KK L b (nb-1)) (KK L a (na-1))
  ·rw[if_neg Aq0]
   refine Ab1 (zd7 (show nb-1<b.size by omega) ?_);have m2:=T.putB M.m 'o' i5 λj g1=>KeyOrd.kle_trans (T.ua j (na-1) (An0 _) 'o' 'o') hb
   show wpS _ _ _ _ (if (nb-1 == 1)=true then _ else _) _ _;by_cases h1:nb-1=1
   ·rw[if_pos (beq_iff_eq.mpr h1)]
    exact Ad1 (hr _ _ _ (T.dF m2 i4 (show nb-1<=b.size by omega) h1 M.like))
   ·rw[if_neg (λz=>h1 (beq_iff_eq.mp z))]
    show wpS _ _ _ _ (if cb+1>=mg then _ else _) _ _;have M2:Hid L a b st na (nb-1) (out.push b[nb-1]) st2 (lo+(y+1)):={m2,i1,'o',i4,'o',M.like,'o'};by_cases h2:cb+1>=mg
    ·rw[if_pos h2]
     exact Ad1 (hn _ _ _ _ _ _ (M2.le 'o'))
    ·rw[if_neg h2]
     exact Ad1 {_,_,_,_,_,rfl,M2}
  ·rw[if_pos rfl]
   refine Ab1 (zd7 (show na-1<a.size by omega) ?_);have m2:=T.putA M.m i1 i4 λj g1=>KeyOrd.kle_trans (T.ub j (nb-1) (An0 _) 'o' 'o') (KeyOrd.kle_of_klt hb)
   show wpS _ _ _ _ (if (na-1 == 0)=true then _ else _) _ _;by_cases h1:na-1=0
   ·rw[if_pos (beq_iff_eq.mpr h1)]
    exact Ad1 (hr _ _ _ (T.dA m2 i5 h1 M.like))
   ·rw[if_neg (λz=>h1 (beq_iff_eq.mp z))]
    show wpS _ _ _ _ (if ca+1>=mg then _ else _) _ _;have M2:Hid L a b st (na-1) nb (out.push a[na-1]) st2 (lo+(y+1)):={m2,'o',i2,'o',i5,M.like,'o'};by_cases h2:ca+1>=mg
    ·rw[if_pos h2]
     exact Ad1 (hn _ _ _ _ _ _ (M2.le 'o'))
    ·rw[if_neg h2]
     exact Ad1 {_,_,_,_,_,rfl,M2}
 ·obtain⟨out,na,nb,ca,cb,e,M⟩:=hI
  have:=M.ha;have:=M.hb;have:=M.far;omega
instance Hq(L:KeyKind)(a b:Array Keyed)(st:SortSt)(lo:Nat)(r:ForInStep H7)(st':SortSt):Prop:=
 match r with
 | .done c=>(∃q z,c=(some q,z)/\vm7 L a b st q st')\/∃na nb out mg ca cb,c=(none,na,nb,out,mg,ca,cb)/\Hid L a b st na nb out st' lo
 | .yield c=>∃na nb out mg ca cb,c=(none,na,nb,out,mg,ca,cb)/\Hid L a b st na nb out st' lo
instance H3(a b:Array Keyed)(na nb:Nat)(out:Array Keyed)(mg ca cb:Nat):SM (ForInStep H7):=do
 let x <-elem' a (na-1)
 if (na-1 == 0)=true then pure (ForInStep.done ((some (vf1 a b (out.push x) (na-1) nb),na-1,nb,out.push x,mg,ca,cb):H7))
 else if (decide (ca<7)&&decide (cb<7))=true then pure (ForInStep.done ((none,na-1,nb,out.push x,mg,ca,cb):H7)) else pure (ForInStep.yield ((none,na-1,nb,out.push x,mg,ca,cb):H7))
def vx4(T:Tw prog w A E s L knd a b st){out:Array Keyed}{na nb lo mg ca cb:Nat}{st':SortSt}(m:Mh L a b out.toList.reverse na nb)(i1:0<na)(i2:1<nb)(i4:na<=a.size)(i5:nb<=b.size)(l:vh8 st st')(hlo:na+nb+lo<=a.size+b.size+1)(hb:∀j,j<nb->L.kle (KK L b j) (KK L a (na-1))) :
 wpS 'r' A E s (H3 a b na nb out mg ca cb) (Hq L a b st lo) st':=by
 unfold H3;refine Ab1 (zd7 (show na-1<a.size by omega) ?_);have m2:=T.putA m i1 i4 hb;by_cases h1:na-1=0
 ·rw[if_pos (beq_iff_eq.mpr h1)]
  exact Ad1 (.inl {_,_,rfl,T.dA m2 i5 h1 l})
 ·rw[if_neg (λz=>h1 (beq_iff_eq.mp z))]
  have M2:Hid L a b st (na-1) nb (out.push a[na-1]) st' lo:={m2,'o',i2,'o',i5,l,'o'};split
  ·exact Ad1 (.inr {_,_,_,_,_,_,rfl,M2})
  ·exact Ad1 {_,_,_,_,_,_,rfl,M2}
instance H2(a b:Array Keyed)(na nb:Nat)(out:Array Keyed)(mg ca cb:Nat):SM (ForInStep H7):=do
 let y <-elem' b (nb-1)
 if (nb-1 == 1)=true then pure (ForInStep.done ((some (vp7 a b (out.push y) na (nb-1)),na,nb-1,out.push y,mg,ca,cb):H7))
 else do
  let x <-elem' a (na-1)
  let p <-gal true x b 0 (nb-1) (nb-1-1)
  match p with
  | some p=>
    if nb-1-p>0 then
     if (p == 1)=true then pure (ForInStep.done ((some (vp7 a b (out.push y++(b.extract p (nb-1)).reverse) na p),na,p,out.push y++(b.extract p (nb-1)).reverse,mg,ca,nb-1-p):H7))
     else if (p == 0)=true then pure (ForInStep.done ((some (vf1 a b (out.push y++(b.extract p (nb-1)).reverse) na p),na,p,out.push y++(b.extract p (nb-1)).reverse,mg,ca,nb-1-p):H7))
     else H3 a b na p (out.push y++(b.extract p (nb-1)).reverse) mg ca (nb-1-p)
    else H3 a b na (nb-1) (out.push y) mg ca (nb-1-p)
  | _=>pure (ForInStep.done ((some (vf1 a b (out.push y) na (nb-1)),na,nb-1,out.push y,mg,ca,cb):H7))
def vx5(T:Tw prog w A E s L knd a b st){out:Array Keyed}{na nb lo mg ca cb:Nat}{st':SortSt}(m:Mh L a b out.toList.reverse na nb)(i1:0<na)(i2:1<nb)(i4:na<=a.size)(i5:nb<=b.size)(l:vh8 st st')(hlo:na+nb+lo<=a.size+b.size+1)(hb:∀j,j<na->L.kle (KK L a j) (KK L b (nb-1))) :
 wpS 'r' A E s (H2 a b na nb out mg ca cb) (Hq L a b st lo) st':=by
 unfold H2;refine Ab1 (zd7 (show nb-1<b.size by omega) ?_);have m2:=T.putB m 'o' i5 hb;by_cases h1:nb-1=1
 ·rw[if_pos (beq_iff_eq.mpr h1)]
  exact Ad1 (.inl {_,_,rfl,T.dF m2 i4 'o' h1 l})
 rw[if_neg (λz=>h1 (beq_iff_eq.mp z))];refine Ab1 (zd7 (show na-1<a.size by omega) (Ab1 (yh8 (ul0 T.C T.ka T.kb T.ub 'o' 'o') (T.kind l) 'o' λp hp hlt hge=>?_)));show wpS _ _ _ _ (if nb-1-p>0 then _ else _) _ _;simp only[Ah0] at hlt hge;have bel:∀j,j<p->L.kle (KK L b j) (KK L a (na-1)):=λj hj=>KeyOrd.kle_of_klt (hlt j hj)
 by_cases hk0:nb-1-p>0
 ·rw[if_pos hk0]
  have m3:=T.manyB m2 hp 'o' λi h1 h2 j h3=>KeyOrd.kle_trans (T.ua j (na-1) (An0 _) 'o' 'o') (hge i h1 'o')
  by_cases h2:p=1
  ·rw[if_pos (beq_iff_eq.mpr h2)]
   exact Ad1 (.inl {_,_,rfl,T.dF m3 i4 'o' h2 l})
  rw[if_neg (λz=>h2 (beq_iff_eq.mp z))];by_cases h3:p=0
  ·rw[if_pos (beq_iff_eq.mpr h3)]
   exact Ad1 (.inl {_,_,rfl,T.dB m3 i4 h3 l})
  rw[if_neg (λz=>h3 (beq_iff_eq.mp z))];exact vx4 T m3 i1 'o' i4 'o' l 'o' bel
 ·rw[if_neg hk0]
  exact vx4 T m2 i1 'o' i4 'o' l 'o' (λj hj=>bel j 'o')
instance H1(a b:Array Keyed)(na nb:Nat)(out:Array Keyed)(mg ca cb:Nat):SM (ForInStep H7):=do
 vq0 mg
 let y <-elem' b (nb-1)
 let p <-gal false y a 0 na (na-1)
 match p with
 | some p=>
   if na-p>0 then
    if (p == 0)=true then pure (ForInStep.done ((some (vf1 a b (out++(a.extract p na).reverse) p nb),p,nb,out++(a.extract p na).reverse,mg,na-p,cb):H7))
    else H2 a b p nb (out++(a.extract p na).reverse) mg (na-p) cb
   else H2 a b na nb out mg (na-p) cb
 | _=>pure (ForInStep.done ((some (vf1 a b out na nb),na,nb,out,mg,ca,cb):H7))
def uc5(T:Tw prog w A E s L knd a b st){out:Array Keyed}{na nb lo mg ca cb:Nat}{st':SortSt}(M:Hid L a b st na nb out st' lo):wpS 'r' A E s (H1 a b na nb out mg ca cb) (Hq L a b st (lo+1)) st':=by
 unfold H1;have i1:=M.ha;have i2:=M.hb;have i3:=M.far;have i4:=M.la;have i5:=M.lb;refine Ab1 (yl1 M.like λst2 l=>?_);refine Ab1 (zd7 (show nb-1<b.size by omega) (Ab1 (yh8 (uk9 T.C T.ka T.kb T.ua 'o' 'o') (T.kind l) 'o' λp hp hlt hge=>?_)));show wpS _ _ _ _ (if na-p>0 then _ else _) _ _;simp only[Ah0] at hlt hge;have ab:∀j,j<p->L.kle (KK L a j) (KK L b (nb-1)):=λj g1=>by
  have:=hlt j g1;exact(show L.blt (KK L b (nb-1)) (KK L a j)=false by simpa using this)
 by_cases hk0:na-p>0
 ·rw[if_pos hk0]
  have m3:=T.manyA M.m hp i4 λi h1 h2 j h3=>by
   have:=hge i h1 h2;exact KeyOrd.kle_trans (T.ub j (nb-1) (An0 _) 'o' 'o') (KeyOrd.kle_of_klt (show L.blt (KK L b (nb-1)) (KK L a i)=true by simpa using this))
  by_cases h1:p=0
  ·rw[if_pos (beq_iff_eq.mpr h1)]
   exact Ad1 (.inl {_,_,rfl,T.dA m3 i5 h1 l})
  rw[if_neg (λz=>h1 (beq_iff_eq.mp z))];exact vx5 T m3 'o' i2 'o' i5 l 'o' ab
 ·rw[if_neg hk0]
  exact vx5 T M.m i1 i2 i4 i5 l 'o' (λj hj=>ab j 'o')
instance ub8(a b:Array Keyed)(c:H7):SM H7:=forIn [0:a.size+b.size] c λ_ r=>
 if r.2.2.2.2.1>1 then H1 a b r.2.1 r.2.2.1 r.2.2.2.1 (r.2.2.2.2.1-1) r.2.2.2.2.2.1 r.2.2.2.2.2.2 else H1 a b r.2.1 r.2.2.1 r.2.2.2.1 r.2.2.2.2.1 r.2.2.2.2.2.1 r.2.2.2.2.2.2
noncomputable abbrev H5:=Option (Array Keyed)×Nat×Nat×Array Keyed×Nat
instance vs7(a b:Array Keyed)(r:H5):SM (ForInStep H5):=do
 let c <-vr0 a b r.2.2.2.2 (none,r.2.1,r.2.2.1,r.2.2.2.1,0,0)
 match c.1 with
 | some q=>pure (ForInStep.done (some q,c.2.1,c.2.2.1,c.2.2.2.1,r.2.2.2.2))
 | none=>do
   rule "list.sort.gallop"
   let d <-ub8 a b (none,c.2.1,c.2.2.1,c.2.2.2.1,r.2.2.2.2+1,c.2.2.2.2.1,c.2.2.2.2.2)
   match d.1 with
   | some q=>pure (ForInStep.done (some q,d.2.1,d.2.2.1,d.2.2.2.1,d.2.2.2.2.1))
   | none=>do
     vq0 (d.2.2.2.2.1+1)
     pure (ForInStep.yield (none,d.2.1,d.2.2.1,d.2.2.2.1,d.2.2.2.2.1+1))
instance un8(c:H5):SM (Array Keyed):=match c.1 with
 | some q=>pure q
 | none=>unsupported "internal:list.sort.merge-bound"
open H in
def wp2(a b:Array Keyed):mhi a b=(do
 rule "list.sort.merge-hi"
 let x <-elem' a (a.size-1)
 if (a.size-1 == 0)=true then pure (vf1 a b #[x] (a.size-1) b.size)
 else if (b.size == 1)=true then pure (vp7 a b #[x] (a.size-1) b.size)
 else do
  let st <-get
  let c <-forIn [0:a.size+b.size] ((none,a.size-1,b.size,#[x],gallopOf st):H5) λ_ r=>vs7 a b r
  un8 c):=by
 rw[wx3];refine congrArg _ (funext λ_=>?_);dsimp only;refine congrArg _ (funext λy=>?_);refine congrArg _ (congrArg _ (congrArg _ (funext λst=>?_)));refine congr (congrArg bind (congrArg _ (funext λ_=>funext λr=>?_))) ?_
 ·unfold vs7
  refine congr (congrArg bind ?_) (funext λc=>?_)
  ·unfold vr0;rfl
  ·obtain⟨c1,c2⟩:=c
   cases c1 with
   | some q=>rfl
   | none=>
     dsimp only;refine congrArg _ (funext λ_=>?_);refine congr (congrArg bind ?_) (funext λd=>?_)
     ·unfold ub8
      refine congrArg _ (funext λ_=>funext λr=>?_);unfold H1 H2 H3;by_cases hm:r.2.2.2.2.1>1
      ·first | rewrite [if_pos hm,if_pos hm] | rewrite [if_pos hm]
       refine congrArg _ (funext λ_=>congrArg _ (funext λ_=>congrArg _ (funext λk=>?_)));cases k with
       | none=>rfl
       | some k=>rfl
      ·first | rewrite [if_neg hm,if_neg hm] | rewrite [if_neg hm]
       refine congrArg _ (funext λ_=>congrArg _ (funext λ_=>congrArg _ (funext λk=>?_)));cases k with
       | none=>rfl
       | some k=>rfl
     ·obtain⟨d1,d2⟩:=d
      cases d1<;>rfl
 ·funext c
  obtain⟨c1,c2⟩:=c;cases c1<;>rfl
def wl2(T:Tw prog w A E s L knd a b st){out:Array Keyed}{na nb lo mg ca cb:Nat}{st':SortSt}(M:Hid L a b st na nb out st' lo){Q:H7->SortSt->Prop}(h1:∀q z st3,vm7 L a b st q st3->Q (some q,z) st3)(h2:∀na nb out mg ca cb st3,Hid L a b st na nb out st3 lo->Q (none,na,nb,out,mg,ca,cb) st3):wpS 'r' A E s (ub8 a b (none,na,nb,out,mg,ca,cb)) Q st':=by
 unfold ub8;refine Af1 (I:=λy c st3=>∃na nb out mg ca cb,c=(none,na,nb,out,mg,ca,cb)/\Hid L a b st na nb out st3 (lo+y)) (λy c st3 hy1 hy2 hI=>?_) (λc st3 hI=>?_) ⟨na,nb,out,mg,ca,cb,rfl,M⟩
 ·obtain⟨na,nb,out,mg,ca,cb,e,M⟩:=hI
  subst e;have fin:∀(mg:Nat),wpS 'r' A E s (H1 a b na nb out mg ca cb) (λr st4=>match r with | .done c'=>Q c' st4 | .yield c'=>∃na nb out mg ca cb,c'=(none,na,nb,out,mg,ca,cb)/\Hid L a b st na nb out st4 (lo+(y+1))) st3:=λmg=>Al1 (uc5 T M) λr st4 hq=>by
   cases r with
   | done c'=>
     rcases hq with⟨q,z,e,f⟩ | ⟨na,nb,out,mg,ca,cb,e,M⟩
     ·subst e;exact h1 q z st4 f
     ·subst e;exact h2 _ _ _ _ _ _ st4 (M.le 'o')
   | yield c'=>exact hq
  show wpS _ _ _ _ (if mg>1 then H1 a b na nb out (mg-1) ca cb else H1 a b na nb out mg ca cb) _ _;by_cases hm:mg>1
  ·rw[if_pos hm];exact Al1 (fin (mg-1)) λr st4 hq=>by cases r<;>exact hq
  ·rw[if_neg hm];exact Al1 (fin mg) λr st4 hq=>by cases r<;>exact hq
 ·obtain⟨na,nb,out,mg,ca,cb,e,M⟩:=hI
  have:=M.ha;have:=M.hb;have:=M.far;omega
def wt2(T:Tw prog w A E s L knd a b st)(ha:0<a.size)(hb:0<b.size){Q:Array Keyed->SortSt->Prop}(h:∀r st',vh8 st st'->vi8 L a b r.toList->Q r st'):wpS 'r' A E s (mhi a b) Q st:=by
 rw[wp2];refine Ab1 (wpS_lift (Aj1 {rfl,?_}));refine Ab1 (zd7 (show a.size-1<a.size by omega) ?_);have m0:Mh L a b (#[a[a.size-1]]:Array Keyed).toList.reverse (a.size-1) b.size:=by
  have z:Mh L a b [] a.size b.size:={by rw[Bv0 'd',Bv0 'd',Bh0],List.Pairwise.nil,λx hx=>absurd hx 'd',λx hx=>absurd hx 'd'};exact T.putA (out:=#[]) z ha (Ae0 _) T.hl
 by_cases h1:(a.size-1 == 0)=true
 ·rw[if_pos h1]
  have f:=T.dA (out:=#[a[a.size-1]]) m0 (Ae0 _) (beq_iff_eq.mp h1) vh8.refl;exact Ad1 (h _ _ f.1 f.2)
 rw[if_neg h1];by_cases h2:(b.size == 1)=true
 ·rw[if_pos h2]
  have f:=T.dF (out:=#[a[a.size-1]]) m0 'o' (Ae0 _) (beq_iff_eq.mp h2) vh8.refl;exact Ad1 (h _ _ f.1 f.2)
 rw[if_neg h2];have hb1:1<b.size:=by
  have:¬b.size=1:=by simpa using h2
  omega
 have ha1:1<a.size:=by
  have:¬a.size-1=0:=λz=>h1 (beq_iff_eq.mpr z)
  omega
 refine Ab1 (wpS_get ?_);refine Ab1 (Al1 (Af1 (I:=λx c st'=>∃na nb out mg,c=(none,na,nb,out,mg)/\Hid L a b st na nb out st' (1+x)) (Q:=λc st'=>∃r z,c=(some r,z)/\vm7 L a b st r st') (λx c st' hx1 hx2 hI=>?_) (λc st' hI=>?_) {a.size-1,b.size,#[a[a.size-1]],_,rfl,m0,'o','o','o','o',vh8.refl,'o'}) λc st' hI=>?_)
 ·obtain⟨na,nb,out,mg,e,M⟩:=hI
  subst e;unfold vs7;refine Ab1 (wb6 T M (λr z st2 f=>?_) λout na nb ca cb st2 M2=>?_)
  ·exact Ad1 {r,_,rfl,f}
  ·refine Ab1 (wpS_lift (Aj1 {rfl,?_}))
   refine Ab1 (wl2 T M2 (λq z st3 f=>?_) λna nb out mg ca cb st3 M3=>?_)
   ·exact Ad1 {q,_,rfl,f}
   ·exact Ab1 (yl1 M3.like λst4 l=>Ad1 {na,nb,out,_,rfl,M3.m,M3.ha,M3.hb,M3.la,M3.lb,l,M3.far})
 ·obtain⟨na,nb,out,mg,e,M⟩:=hI
  have:=M.ha;have:=M.hb;have:=M.far;omega
 ·obtain⟨r,z,e,f⟩:=hI
  subst e;exact Ad1 (h _ _ f.1 f.2)
end
instance back(sa:Nat)(l:List Keyed)(xs:Array Keyed):Array Keyed:=l.zipIdx.foldl (λu (p,j)=>u.setIfInBounds (sa+j) p) xs
def wx5(i:Nat):mergeAt' i=(do
 let z <-get
 let (some (sa,na,pw),some (sb,nb,_)):=((pendingOf z)[i]?,(pendingOf z)[i+1]?) | unsupported "internal:list.sort.pending"
 set (setPending z (((pendingOf z).setIfInBounds i (sa,na+nb,pw)).eraseIdxIfInBounds (i+1)))
 let some k <-gal false (<-elem' (arrOf z) sb) (arrOf z) sa na 0 | return false
 let (sa,na):=(sa+k,na-k)
 if na == 0 then return true
 let some nb <-gal true (<-elem' (arrOf z) (sa+na-1)) (arrOf z) sb nb (nb-1) | return false
 if nb == 0 then return true
 let x:=(arrOf z).extract sa sb
 let y:=(arrOf z).extract sb (sb+nb)
 let out <-if na<=nb then mlo x y else mhi x y
 modify λv=>setArr v (back sa out.toList (arrOf v))
 return (failedOf (<-get)).isNone):=rfl
theorem wa1(sa:Nat)(l:List Keyed)(xs:Array Keyed):(back sa l xs).size=xs.size:=by
 unfold back
 suffices h:∀(l:List (Keyed×Nat)) (xs:Array Keyed),(l.foldl (λu (p,j)=>u.setIfInBounds (sa+j) p) xs).size=xs.size from h _ _
 intro l;induction l with
 | nil=>intro xs;rfl
 | cons q l ih=>intro xs;rw[List.foldl_cons,ih];simp
theorem ws5(sa:Nat)(l:List Keyed)(xs:Array Keyed)(h:sa+l.length<=xs.size)(i:Nat):(back sa l xs)[i]?=if sa<=i/\i<sa+l.length then l[i-sa]? else xs[i]?:=by
 unfold back
 suffices g:∀(l:List Keyed) (n:Nat) (xs:Array Keyed),sa+n+l.length<=xs.size->((l.zipIdx n).foldl (λu (p,j)=>u.setIfInBounds (sa+j) p) xs)[i]?=if sa+n<=i/\i<sa+n+l.length then l[i-(sa+n)]? else xs[i]? by
  have:=g l 0 xs (by simpa using h);simpa using this
 intro l;induction l with
 | nil=>intro n xs _;simp;omega
 | cons q l ih=>
   intro n xs h;simp only[Ax0] at h;rw[List.zipIdx_cons,List.foldl_cons,ih (n+1) _ (by simp;omega)];rw[Array.getElem?_setIfInBounds];by_cases h1:sa+n=i
   ·subst h1
    rw[if_neg 'o',if_pos rfl,if_pos 'o',if_pos 'd'];simp
   ·rw[if_neg (show ¬sa+n=i from h1)]
    by_cases h2:sa+n<=i/\i<sa+n+(l.length+1)
    ·rw[if_pos 'o',if_pos (by simpa using h2)]
     rw[show i-(sa+n)=(i-(sa+(n+1)))+1 by omega];simp
    ·rw[if_neg 'o',if_neg (by simpa using h2)]
def wa2(sa:Nat)(l:List Keyed)(xs:Array Keyed)(h:sa+l.length<=xs.size):(back sa l xs).toList=xs.toList.take sa++(l++xs.toList.drop (sa+l.length)):=by
 refine Ck0 λi=>?_
 have:=ws5 sa l xs h i;rw[<-Cf0] at this;have lt:xs.toList.length=xs.size:=by simp
 rw[this,List.getElem?_append,Be0,Nat.min_eq_left 'o'];by_cases h1:i<sa
 ·rw[if_neg 'o',if_pos h1,List.getElem?_take,if_pos h1]
  simp
 ·rw[if_neg h1,List.getElem?_append]
  by_cases h2:i<sa+l.length
  ·rw[if_pos 'o',if_pos 'o']
  ·rw[if_neg 'o',if_neg 'o',List.getElem?_drop]
   simp;congr 1;omega
section
variable{knd:SortKind}{st:SortSt}
def wt0{z:SortSt}{Q:PUnit->SortSt->Prop}(h:Q ⟨⟩ z):wpS 'r' A E s (set z:SM PUnit) Q st:=by
 unfold wpS;rw[StateT.run_set];exact Ac1 ⟨rfl,h⟩
def xj3{xs:Array Keyed}(h:xs.toList.Pairwise (le L)):Up L xs 0 xs.size:=λi j _ g2 g3=>by
 by_cases e:i=j
 ·subst e;exact KeyOrd.kle_refl _
 ·have:=Cg0.mp h i j (by simp;omega) (by simp;omega) 'o'
  rw[vd7 'o',vd7 g3];simpa using this
def we3{xs:Array Keyed}{i k:Nat}{x:Keyed}(h:x∈(xs.toList.drop i).take k):∃j,i<=j/\j<i+k/\j<xs.size/\ky L x=KK L xs j:=by
 obtain⟨j,hj,e⟩:=List.getElem_of_mem h;rw[Be0,List.length_drop,Aw0] at hj;refine{i+j,'o','o','o',?_};rw[vd7 'o',<-e];simp[List.getElem_take,List.getElem_drop]
def xn2{xs:Array Keyed}{p q:Nat}(hq:q<=xs.size)(u:Up L xs p q){lo hi:Nat}(h1:p<=lo)(h2:hi<=q)(h3:lo<=hi):Up L (xs.extract lo hi) 0 (xs.extract lo hi).size:=λi j _ g2 g3=>by
 have sz:(xs.extract lo hi).size=hi-lo:=by simp;omega
 rw[sz] at g3;have e:∀t,t<hi-lo->KK L (xs.extract lo hi) t=KK L xs (lo+t):=λt ht=>KK_congr (by rw[Array.getElem?_extract];simp;omega)
 rw[e i 'o',e j g3];exact u _ _ 'o' 'o' 'o'
def xi6{xs:Array Keyed}{lo hi t:Nat}(hq:hi<=xs.size)(ht:lo+t<hi):KK L (xs.extract lo hi) t=KK L xs (lo+t):=KK_congr (by rw[Array.getElem?_extract];simp;omega)
def yt4{xs:Array Keyed}(h:KeysOf L xs){lo hi:Nat}:KeysOf L (xs.extract lo hi):=λp hp=>h p (by
 rw[Array.toList_extract,List.extract_eq_drop_take] at hp;exact List.mem_of_mem_drop (List.mem_of_mem_take hp))
def wy5{xs:Array Keyed}{k n m:Nat}{l:List Keyed}(hk:k<=n)(hnm:n<=m)(hm:m<=xs.size)(W:vi8 L (xs.extract k n) (xs.extract n m) l)(u1:Up L xs 0 n)(u2:Up L xs n xs.size)(c1:∀i,i<k->∀j,n<=j->j<xs.size->L.kle (KK L xs i) (KK L xs j))(c2:∀i,i<n->∀j,m<=j->j<xs.size->L.kle (KK L xs i) (KK L xs j)) :
 (back k l xs).Perm xs/\Up L (back k l xs) 0 (back k l xs).size:=by
 have ll:l.length=m-k:=by
  have:=W.1.length_eq;rw[Ak0,Aw0,Aw0] at this;simp at this;omega
 have bl:=wa2 k l xs 'o';rw[ll,show k+(m-k)=m by omega] at bl;have e1:(xs.extract k n).toList++(xs.extract n m).toList=(xs.toList.drop k).take (m-k):=by
  rw[zg1 'o',zg1 hm,show m-k=(n-k)+(m-n) by omega,List.take_add,List.drop_drop,show k+(n-k)=n by omega]
 have W1:=W.1;rw[e1] at W1;refine{?_,xj3 ?_}
 ·rw[Array.perm_iff_toList_perm,bl]
  have:xs.toList=xs.toList.take k++((xs.toList.drop k).take (m-k)++xs.toList.drop m):=by
   rw[show m=k+(m-k) by omega,<-List.drop_drop,show k+(m-k)-k=m-k by omega,List.take_append_drop,List.take_append_drop]
  refine List.Perm.trans (List.Perm.append_left _ (List.Perm.append_right _ W1)) ?_;rw[<-this]
 ·rw[bl]
  have up1:∀{p q:Nat},q<=xs.size->Up L xs p q->((xs.toList.drop p).take (q-p)).Pairwise (le L):=λ{p q} hq u=>by
   rw[Cg0];intro i j hi hj hij;rw[Be0,List.length_drop,Aw0] at hi hj;have:=u (p+i) (p+j) 'o' 'o' 'o';rw[vd7 'o',vd7 'o'] at this;simpa [List.getElem_drop,List.getElem_take] using this
  have lm:∀x∈l,∃j,k<=j/\j<m/\ky L x=KK L xs j:=λx hx=>by
   obtain⟨j,h1,h2,_,e⟩:=we3 (L:=L) (W1.mem_iff.mp hx);exact{j,h1,'o',e}
  refine Bl0.mpr {?_,Bl0.mpr {W.2,?_,λx hx y hy=>?_},λx hx y hy=>?_}
  ·have:=up1 (p:=0) (q:=k) 'o' (λi j g1 g2 g3=>u1 i j g1 g2 'o')
   simpa using this
  ·have:=up1 (p:=m) (q:=xs.size) (Ae0 _) (λi j g1 g2 g3=>u2 i j 'o' g2 g3)
   rwa [Bv0 'd'] at this
  ·obtain⟨i,h1,h2,e⟩:=lm x hx
   obtain⟨j,h3,h4,e2⟩:=zt1 (L:=L) hy;show L.kle (ky L x) (ky L y);rw[e,e2];by_cases hi:i<n
   ·exact c2 i hi j h3 h4
   ·exact u2 i j 'o' 'o' h4
  ·obtain⟨i,h1,h2,e⟩:=zw9 (L:=L) hx
   show L.kle (ky L x) (ky L y);rw[e];rcases Ar0.mp hy with hy | hy
   ·obtain⟨j,h3,h4,e2⟩:=lm y hy
    rw[e2];by_cases hj:j<n
    ·exact u1 i j (An0 _) 'o' hj
    ·exact c1 i h1 j 'o' 'o'
   ·obtain⟨j,h3,h4,e2⟩:=zt1 (L:=L) hy
    rw[e2];exact c1 i h1 j 'o' h4
def wg9{xs:Array Keyed}{n:Nat}(h0:0<n)(hn:n<xs.size)(u1:Up L xs 0 n)(u2:Up L xs n xs.size)(h:L.kle (KK L xs (n-1)) (KK L xs n)):Up L xs 0 xs.size:=λi j g1 g2 g3=>by
 by_cases hj:j<n
 ·exact u1 i j g1 g2 hj
 ·by_cases hi:n<=i
  ·exact u2 i j hi g2 g3
  ·exact KeyOrd.kle_trans (u1 i (n-1) g1 'o' 'o') (KeyOrd.kle_trans h (u2 n j (Ae0 _) 'o' g3))
def uh8(C:Cmp prog w A E s L knd)(ka:KeysOf L a₀){base n j:Nat}(ua:Up L a₀ base (base+n))(hn:base+n<=a₀.size)(hj:j<a₀.size):Cut prog w A E s knd false a₀[j] a₀ base n (λi=>!L.blt (KK L a₀ j) (KK L a₀ (base+i))) where
 far:=λi st Q hi hk h=>by
  unfold far;refine Ab1 (zd7 'o' ?_);show wpS _ _ _ _ (lt' a₀[j] a₀[base+i] >>= λx=>pure (x.map (!·))) Q st;exact Ab1 (yh6 C hk ka ka hj 'o' (Ad1 h))
 mono:=λi k h1 h2 h=>by
  have h:L.blt (KK L a₀ j) (KK L a₀ (base+k))=false:=by simpa using h
  have:=KeyOrd.kle_trans (ua (base+i) (base+k) 'o' 'o' 'o') h;have:L.blt (KK L a₀ j) (KK L a₀ (base+i))=false:=this;simp[this]
def uh9(C:Cmp prog w A E s L knd)(ka:KeysOf L a₀){base n i:Nat}(ub:Up L a₀ base (base+n))(hn:base+n<=a₀.size)(hi:i<a₀.size):Cut prog w A E s knd true a₀[i] a₀ base n (λk=>L.blt (KK L a₀ (base+k)) (KK L a₀ i)) where
 far:=λk st Q hk2 hk h=>by
  unfold far;refine Ab1 (zd7 'o' ?_);show wpS _ _ _ _ (lt' a₀[base+k] a₀[i]) Q st;exact yh6 C hk ka ka 'o' hi h
 mono:=λp q h1 h2 h=>KeyOrd.klt_of_kle_of_klt (ub (base+p) (base+q) 'o' 'o' 'o') h
def xu8{xs:Array Keyed}(h:KeysOf L a₀)(p:xs.Perm a₀):KeysOf L xs:=λq hq=>h q ((Array.perm_iff_toList_perm.mp p).mem_iff.mp hq)
def wt4(C:Cmp prog w A E s L knd)(h0:KeysOf L a₀){n1 n2 pw:Nat}(B:Bs a₀ knd #[(0,n1,pw),(n1,n2,0)] st)(hn1:0<n1)(hn2:0<n2)(hs:n1+n2=a₀.size)(u1:Up L (arrOf st) 0 n1)(u2:Up L (arrOf st) n1 a₀.size){Q:Bool->SortSt->Prop}(h:∀st',Bs a₀ knd #[(0,n1+n2,pw)] st'->Up L (arrOf st') 0 a₀.size->Q true st'):wpS 'r' A E s (mergeAt' 0) Q st:=by
 rw[wx5];refine Ab1 (wpS_get ?_);have e0:(pendingOf st)[0]?=some (0,n1,pw):=by rw[B.pend];rfl
 have e1:(pendingOf st)[0+1]?=some (n1,n2,0):=by rw[B.pend];rfl
 have e2:∀z:Nat×Nat×Nat,((pendingOf st).setIfInBounds 0 z).eraseIdxIfInBounds (0+1)=#[z]:=λz=>by rw[B.pend];simp[Array.eraseIdxIfInBounds]
 rw[e0,e1];dsimp only;rw[e2];refine Ab1 (wt0 ?_);have sz:=B.size;have ks:=xu8 h0 B.perm;have u2':Up L (arrOf st) n1 (arrOf st).size:=by rw[sz];exact u2
 have B1:Bs a₀ knd #[(0,n1+n2,pw)] (setPending st #[(0,n1+n2,pw)]):=⟨B.perm,B.kind,B.fail,rfl⟩;generalize hst1:setPending st #[(0,n1+n2,pw)]=st1 at B1;have ea:arrOf st1=arrOf st:=by rw[<-hst1]
 rw[<-ea] at sz ks u1 u2' ⊢;have fin:Up L (arrOf st1) 0 (arrOf st1).size->Q true st1:=λu=>h st1 B1 (by rw[<-sz];exact u)
 generalize hxs:arrOf st1=xs at *;refine Ab1 (zd7 (show n1<xs.size by omega) (Ab1 (yh8 (uh8 C ks (base:=0) (n:=n1) (by simpa using u1) 'o' 'o') B1.kind 'o' λk hk hlt hge=>?_)));dsimp only;simp only[Ah0] at hlt hge ⊢;have hlt:∀i,i<k->L.kle (KK L xs i) (KK L xs n1):=λi hi=>(show L.blt (KK L xs n1) (KK L xs i)=false by simpa using hlt i hi)
 have hge:∀i,k<=i->i<n1->L.blt (KK L xs n1) (KK L xs i)=true:=λi h1 h2=>by simpa using hge i h1 h2
 by_cases hz:n1-k=0
 ·rw[if_pos (beq_iff_eq.mpr hz)]
  exact Ad1 (fin (wg9 hn1 'o' u1 u2' (hlt _ 'o')))
 rw[if_neg (λz=>hz (beq_iff_eq.mp z))];have ei:k+(n1-k)-1=n1-1:=by omega
 rw[ei];refine Ab1 (zd7 (show n1-1<xs.size by omega) (Ab1 (yh8 (uh9 C ks (base:=n1) (n:=n2) (by rw[show n1+n2=xs.size by omega];exact u2') 'o' 'o') B1.kind 'o' λm hm hlt2 hge2=>?_)));dsimp only;by_cases hz2:m=0
 ·rw[if_pos (beq_iff_eq.mpr hz2)]
  have:=hge2 0 'o' 'o';exact Ad1 (fin (wg9 hn1 'o' u1 u2' this))
 rw[if_neg (λz=>hz2 (beq_iff_eq.mp z))];have hge2:∀j,n1+m<=j->j<xs.size->L.kle (KK L xs (n1-1)) (KK L xs j):=λj g1 g2=>by
  have:=hge2 (j-n1) 'o' 'o';rw[show n1+(j-n1)=j by omega] at this;exact this
 have s1:(xs.extract k n1).size=n1-k:=by simp;omega
 have s2:(xs.extract n1 (n1+m)).size=m:=by simp;omega
 have ff:∀j,j<n1-k->L.kle (KK L xs n1) (KK L xs (k+j)):=λj hj=>KeyOrd.kle_of_klt (hge _ 'o' 'o')
 have T:Tw prog w A E s L knd (xs.extract k n1) (xs.extract n1 (n1+m)) st1:=by
  refine{{C,yt4 ks,yt4 ks,xn2 'o' u1 (An0 _) (Ae0 _) 'o',xn2 (Ae0 _) u2' (Ae0 _) 'o' 'o',λj hj=>?_,B1.kind},λj hj=>?_}
  ·rw[s2] at hj
   rw[s1,xi6 'o' 'o',xi6 'o' 'o',show k+(n1-k-1)=n1-1 by omega];exact KeyOrd.kle_of_klt (hlt2 j hj)
  ·rw[s1] at hj
   rw[xi6 'o' 'o',xi6 'o' 'o'];exact ff j hj
 have aft:∀(r:Array Keyed) (st':SortSt),vh8 st1 st'->vi8 L (xs.extract k n1) (xs.extract n1 (n1+m)) r.toList->wpS 'r' A E s (do
  modify λv=>setArr v (back k r.toList (arrOf v))
  return (failedOf (<-get)).isNone) Q st':=λr st' l W=>by
  have J:=wy5 'o' 'o' 'o' W u1 u2' (λi hi j g1 g2=>KeyOrd.kle_trans (hlt i hi) (u2' n1 j (Ae0 _) g1 g2)) (λi hi j g1 g2=>KeyOrd.kle_trans (u1 i (n1-1) (An0 _) 'o' 'o') (hge2 j g1 g2));refine Ab1 (Am1 (Ab1 (wpS_get ?_)));have ef:failedOf st'=none:=l.fail.trans B1.fail;have ea2:arrOf st'=xs:=l.arr.trans hxs;have e3:(failedOf (setArr st' (back k r.toList (arrOf st')))).isNone=true:=by show (failedOf st').isNone=true;rw[ef];rfl
  rw[e3];refine Ad1 (h _ {?_,l.kind.trans B1.kind,ef,l.pend.trans B1.pend} ?_)
  ·show (back k r.toList (arrOf st')).Perm a₀
   rw[ea2];have:=B1.perm;rw[hxs] at this;exact J.1.trans this
  ·show Up L (back k r.toList (arrOf st')) 0 a₀.size
   rw[ea2];have:=J.2;rwa [wa1,sz] at this
 by_cases hw:n1-k<=m
 ·rw[if_pos hw]
  refine Ab1 (wt1 T.toTwo 'o' 'o' (T.hf 0 'o') aft)
 ·rw[if_neg hw]
  refine Ab1 (wt2 T 'o' 'o' aft)
def wq5{n:Nat}(h2:2<=n)(h:n<128):∃m,minRun' n n 0=m/\1<=m/\m<=n/\n<=2*m:=by
 obtain⟨f,rfl⟩:∃f,n=f+1+1:={n-2,'o'};rw[minRun'_succ];by_cases h64:f+1+1<64
 ·rw[if_pos h64]
  exact{_,rfl,'o','o','o'}
 ·rw[if_neg h64,minRun'_succ,if_pos 'o']
  exact{_,rfl,'o','o','o'}
def wk3{xs ys:Array Keyed}{lo hi i:Nat}(o:Out xs ys lo hi)(h:i<lo\/hi<=i):KK L ys i=KK L xs i:=KK_congr (o i h)
def Up.out{xs ys:Array Keyed}{lo hi n:Nat}(u:Up L xs 0 n)(o:Out xs ys lo hi)(h:n<=lo):Up L ys 0 n:=λi j g1 g2 g3=>by
 rw[wk3 o (.inl 'o'),wk3 o (.inl 'o')];exact u i j g1 g2 g3
instance ui6(L:KeyKind)(a₀:Array Keyed)(knd:SortKind)(m x lo:Nat)(st:SortSt):Prop:=
 (x=0/\lo=0/\Bs a₀ knd #[] st)\/
 (x=1/\lo<a₀.size/\m<=lo/\Bs a₀ knd #[(0,lo,0)] st/\Up L (arrOf st) 0 lo)\/
 (1<=x/\lo=a₀.size/\∃pw,Bs a₀ knd #[(0,a₀.size,pw)] st/\Up L (arrOf st) 0 a₀.size)\/
 (2<=x/\lo=a₀.size/\∃n1 n2 pw,0<n1/\0<n2/\n1+n2=a₀.size/\Bs a₀ knd #[(0,n1,pw),(n1,n2,0)] st/\Up L (arrOf st) 0 n1/\Up L (arrOf st) n1 a₀.size)
instance vn9(L:KeyKind)(a₀:Array Keyed)(knd:SortKind)(st:SortSt):Prop:=
 (∃pw,Bs a₀ knd #[(0,a₀.size,pw)] st/\Up L (arrOf st) 0 a₀.size)\/
 ∃n1 n2 pw,0<n1/\0<n2/\n1+n2=a₀.size/\Bs a₀ knd #[(0,n1,pw),(n1,n2,0)] st/\Up L (arrOf st) 0 n1/\Up L (arrOf st) n1 a₀.size
def Bs.push{P:Array (Nat×Nat×Nat)}(B:Bs a₀ knd P st)(z:Nat×Nat×Nat):Bs a₀ knd (P.push z) (setPending st ((pendingOf st).push z)):={B.perm,B.kind,B.fail,by show (pendingOf st).push z=_;rw[B.pend]}
def vx8{m n:Nat}(B:Bs a₀ knd #[] st)(h1:m<=n)(hm:1<=m)(h2:n<=a₀.size)(u:Up L (arrOf st) 0 (0+n)):ui6 L a₀ knd m (0+1) (0+n) (setPending st ((pendingOf st).push (0,n,0))):=by
 have B2:=B.push (0,n,0);simp only[Ah0] at u ⊢;by_cases hn:n=a₀.size
 ·subst hn
  exact .inr (.inr (.inl {'o',rfl,0,B2,u}))
 ·exact .inr (.inl {rfl,'o',h1,B2,u})
def wk7(C:Cmp prog w A E s L knd)(h0:KeysOf L a₀)(B:Bs a₀ knd #[] st)(h2:2<=a₀.size)(h128:a₀.size<128){Q:Unit->SortSt->Prop}(h:∀st',(arrOf st').Perm a₀->failedOf st'=none->Up L (arrOf st') 0 a₀.size->Q () st'):wpS 'r' A E s sortRuns' Q st:=by
 rw[sortRuns'_eq];refine Ab1 (wpS_get ?_);dsimp only;obtain⟨m,em,hm1,hm2,hm3⟩:=wq5 h2 h128;simp only[B.size,em];refine Ab1 (Al1 (Af1 (I:=λx c st'=>∃lo,c=(none,lo)/\ui6 L a₀ knd m x lo st') (Q:=λc st'=>∃lo,c=(none,lo)/\vn9 L a₀ knd st') ?step ?fin {0,rfl,.inl ⟨rfl,rfl,B⟩}) ?post);case fin=>
  rintro c st' ⟨lo,rfl,R⟩;rcases R with⟨hx,_,_⟩ | ⟨hx,_,_⟩ | ⟨_,_,R⟩ | ⟨_,_,R⟩
  ·omega
  ·omega
  ·exact{lo,rfl,.inl R}
  ·exact{lo,rfl,.inr R}
 case step=>
  rintro x c st' _ hx ⟨lo,rfl,R⟩;dsimp only;rcases R with⟨rfl,rfl,B1⟩ | ⟨rfl,hlo,hml,B1,u1⟩ | ⟨_,rfl,R⟩ | ⟨_,rfl,R⟩
  ·rw[if_neg 'o']
   refine Ab1 (yc8 C h0 B1 'o' 'o' λn st2 B2 hn1 hn2 un o=>?_);dsimp only;by_cases hlt:n<m
   ·rw[if_pos hlt]
    refine Ab1 (wpS_lift (Aj1 {rfl,?_}));rw[Nat.sub_zero,Nat.min_eq_right hm2];refine Ab1 (yq5 C h0 B2 'o' 'o' un λst3 B3 u3 o3=>?_);simp only[Co0,Bf0,if_false];refine Ab1 (wpS_get ?_);have hb:(pendingOf st3).back?=none:=by rw[B3.pend];rfl
    rw[hb];dsimp only;exact Ab1 (Am1 (Ad1 {_,rfl,vx8 B3 (Ae0 _) hm1 hm2 u3}))
   ·rw[if_neg hlt]
    refine Ab1 (wpS_get ?_);have hb:(pendingOf st2).back?=none:=by rw[B2.pend];rfl
    rw[hb];dsimp only;exact Ab1 (Am1 (Ad1 {_,rfl,vx8 B2 'o' hm1 'o' un}))
  ·rw[if_neg 'o']
   have aft:∀(st2:SortSt) (n:Nat),n=a₀.size-lo->Bs a₀ knd #[(0,lo,0)] st2->Up L (arrOf st2) lo (lo+n)->Up L (arrOf st2) 0 lo->∀pw,ui6 L a₀ knd m (1+1) (lo+n) (setPending (setPending st2 ((pendingOf st2).modify ((pendingOf st2).size-1) λ(st,len,_)=>(st,len,pw))) ((pendingOf (setPending st2 ((pendingOf st2).modify ((pendingOf st2).size-1) λ(st,len,_)=>(st,len,pw)))).push (lo,n,0))):=λst2 n hn B2 u2 u1 pw=>by
    subst hn;rw[show lo+(a₀.size-lo)=a₀.size by omega] at u2 ⊢;refine .inr (.inr (.inr {'o',rfl,lo,a₀.size-lo,pw,'o','o','o',{B2.perm,B2.kind,B2.fail,?_},u1,u2}));show ((pendingOf st2).modify ((pendingOf st2).size-1) _).push _=_;rw[B2.pend];rfl
   have brk:∀(st2:SortSt) (n pw:Nat) (Q':ForInStep (Option Unit×Nat)->SortSt->Prop),Bs a₀ knd #[(0,lo,0)] st2->True:=λ_ _ _ _ _=>trivial
   refine Ab1 (yc8 C h0 B1 'o' 'o' λn st2 B2 hn1 hn2 un o=>?_);have u1':=u1.out o (Ae0 _);dsimp only;by_cases hlt:n<m
   ·rw[if_pos hlt]
    refine Ab1 (wpS_lift (Aj1 {rfl,?_}));rw[Nat.min_eq_left (show a₀.size-lo<=m by omega)];refine Ab1 (yq5 C h0 B2 'o' 'o' un λst3 B3 u3 o3=>?_);have u1'':=u1'.out o3 (Ae0 _);simp only[Co0,Bf0,if_false];refine Ab1 (wpS_get ?_);have hb:(pendingOf st3).back?=some (0,lo,0):=by rw[B3.pend];rfl
    rw[hb];dsimp only;refine Ab1 (Al1 (Af1 (I:=λ_ c st4=>c=(none,())/\st4=st3) (Q:=λc st4=>c=(none,())/\st4=st3) (λy c st4 hy1 hy2 hI=>?_) (λc st4 hI=>hI) ⟨rfl,rfl⟩) λc st4 hI=>?_)
    ·obtain⟨e1,e2⟩:=hI
     subst e1;rw[e2];refine Ab1 (wpS_get ?_);have e3:(pendingOf st3).size=1:=by rw[B3.pend];rfl
     rw[if_neg (show ¬(pendingOf st3).size>1 by omega)];exact Ad1 ⟨rfl,rfl⟩
    ·obtain⟨e1,e2⟩:=hI
     subst e1 e2;dsimp only;exact Ab1 (Am1 (Ab1 (Am1 (Ad1 {_,rfl,aft _ _ rfl B3 u3 u1'' _}))))
   ·rw[if_neg hlt]
    refine Ab1 (wpS_get ?_);have hb:(pendingOf st2).back?=some (0,lo,0):=by rw[B2.pend];rfl
    rw[hb];dsimp only;refine Ab1 (Al1 (Af1 (I:=λ_ c st4=>c=(none,())/\st4=st2) (Q:=λc st4=>c=(none,())/\st4=st2) (λy c st4 hy1 hy2 hI=>?_) (λc st4 hI=>hI) ⟨rfl,rfl⟩) λc st4 hI=>?_)
    ·obtain⟨e1,e2⟩:=hI
     subst e1;rw[e2];refine Ab1 (wpS_get ?_);have e3:(pendingOf st2).size=1:=by rw[B2.pend];rfl
     rw[if_neg (show ¬(pendingOf st2).size>1 by omega)];exact Ad1 ⟨rfl,rfl⟩
    ·obtain⟨e1,e2⟩:=hI
     subst e1 e2;dsimp only;exact Ab1 (Am1 (Ab1 (Am1 (Ad1 {_,rfl,aft _ _ 'o' B2 un u1' _}))))
  ·rw[if_pos (Ae0 _)]
   exact Ad1 {_,rfl,.inl R}
  ·rw[if_pos (Ae0 _)]
   exact Ad1 {_,rfl,.inr R}
 case post=>
  rintro c st' ⟨lo,rfl,R⟩;dsimp only;refine Ab1 (Al1 (Af1 (I:=λx c st''=>c=(none,())/\((x=0/\vn9 L a₀ knd st'')\/∃pw,Bs a₀ knd #[(0,a₀.size,pw)] st''/\Up L (arrOf st'') 0 a₀.size)) (Q:=λc st''=>c=(none,())/\∃pw,Bs a₀ knd #[(0,a₀.size,pw)] st''/\Up L (arrOf st'') 0 a₀.size) ?_ ?_ {rfl,.inl ⟨rfl,R⟩}) ?_)
  ·rintro x c st'' _ _ ⟨rfl,R⟩
   refine Ab1 (wpS_get ?_);have one:(∃pw,Bs a₀ knd #[(0,a₀.size,pw)] st''/\Up L (arrOf st'') 0 a₀.size)->(pendingOf st'').size=1:=λ⟨pw,B,_⟩=>by rw[B.pend];rfl
   rcases R with⟨_,R | ⟨n1,n2,pw,g1,g2,g3,B3,u1,u2⟩⟩ | R
   ·rw[if_pos (by rw[one R];exact Ae0 1)]
    exact Ad1 ⟨rfl,R⟩
   ·have e3:(pendingOf st'').size=2:=by rw[B3.pend];rfl
    rw[if_neg 'o',e3];show wpS _ _ _ _ (mergeAt' 0 >>= _) _ _;refine Ab1 (wt4 C h0 B3 g1 g2 g3 u1 u2 λst4 B4 u4=>?_);rw[g3] at B4;exact Ad1 {rfl,.inr ⟨pw,B4,u4⟩}
   ·rw[if_pos (by rw[one R];exact Ae0 1)]
    exact Ad1 ⟨rfl,R⟩
  ·rintro c st'' ⟨rfl,R⟩
   rcases R with⟨hx,_⟩ | R
   ·omega
   ·exact⟨rfl,R⟩
  ·rintro c st'' ⟨rfl,pw,B,u⟩
   exact Ad1 (h _ B.perm B.fail u)
end
open PySem PyProof PyProof.Rows
instance vp5(h:Heap):Value->Option (Int×Int)
 | .ref a=>match h.get? a with
   | some o=>match o.data with
     | .seq xs _=>match xs.toList with
       | [.int x _,.int y _]=>some (x,y)
       | _=>none
     | _=>none
   | none=>none
 | _=>none
instance vd0(h:Heap)(v:Value)(p:Int×Int):Prop:=∃a o n t u,v=.ref a/\h.get? a=some o/\o.cls=.type "tuple"/\o.data=.seq #[.int p.1 t,.int p.2 u] n
def vd0.key{h:Heap}{v:Value}{p:Int×Int}(z:vd0 h v p):vp5 h v=some p:=by
 obtain⟨a,o,n,t,u,rfl,g,_,d⟩:=z;simp[vp5,g,d]
open H in
def yj6{h:Heap}{v:Value}{p:Int×Int}(z:vp5 h v=some p):∃a o n t u,v=.ref a/\h.get? a=some o/\o.data=.seq #[.int p.1 t,.int p.2 u] n:=by
 unfold vp5 at z;split at z
 ·rename_i a
  split at z
  ·rename_i o g
   split at z
   ·rename_i xs n d
    split at z
    ·rename_i x t y u e
     cases z;refine{a,o,n,t,u,rfl,g,?_};rw[d];congr 1;exact Array.toList_inj.mp e
    ·cases z
   ·cases z
  ·cases z
 ·cases z
instance lx(a b:Int×Int):Bool:=decide (a.1<b.1\/a.1=b.1/\a.2<b.2)
def ye6{a b:Int×Int}:lx a b=true↔(a.1<b.1\/a.1=b.1/\a.2<b.2):=decide_eq_true_iff
def yj2{a b:Int×Int}:lx a b=false↔¬(a.1<b.1\/a.1=b.1/\a.2<b.2):=decide_eq_false_iff_not
instance ub0(h:Heap):KeyKind where
 α:=Int×Int
 blt:=lx
 irrefl:=λa=>yj2.mpr 'o'
 trans:=λa b c h1 h2=>by rw[ye6] at *;omega
 negTrans:=λa b c h1=>by rw[ye6,ye6];rw[ye6] at h1;omega
 total:=λa b h1 h2=>by rw[yj2] at *;exact Prod.ext 'o' 'o'
 keyOf:=vp5 h
 dflt:=(0,0)
def zz9(f:Bool)(x y:Value):keyLt' (tuples' f) x y=(do
 let us <-Builtin.List.listItems x
 let vs <-Builtin.List.listItems y
 for ((p,q),i) in (us.toList.zip vs.toList).zipIdx do
  if !(<-eqBool p q) then return <-oneLt' (f&&i == 0) p q
 return decide (us.size<vs.size)):=rfl
def wx7{x y:Int}{t u:Tok}{Q:Bool->Shared->Prop}(h:Q (decide (x<y)) s):wpAny 'r' A (oneLt' false (.int x t) (.int y u)) Q E s:=by
 rw[oneLt'_eq];simp only[Bf0,if_false];refine Aa1 (wpAny_richCompare_same (id:="int.__lt__") (typeIs_int s x t) (typeIs_int s y u) slot_int_lt (call_int_lt {'d',?_}));exact Ai1 h
def wg1:Cmp prog w A E s (ub0 s.heap) (tuples' true):=by
 intro st x y a b Q hk hx hy h;obtain⟨i,o,n,t,u,e1,g1,d1⟩:=yj6 hx;obtain⟨j,o2,n2,t2,u2,e2,g2,d2⟩:=yj6 hy;rw[lt'_eq];refine Ab1 (wpS_get ?_);rw[hk,zz9,e1,e2];refine Ab1 (wpS_lift (wpAny_attempt (Aa1 (listItems_at g1 d1 (Aa1 (listItems_at g2 d2 ?_))))));simp only[List.zip_cons_cons,List.zipIdx_cons,List.forIn_cons,List.zip_nil_left,List.zipIdx_nil,List.forIn_nil];refine Aa1 (Aa1 (Aa1 (wpAny_eqBool_int ?_)));by_cases c1:a.1=b.1
 ·rw[if_neg (by simp[c1])]
  refine Ac1 (Aa1 (Aa1 (wpAny_eqBool_int ?_)));by_cases c2:a.2=b.2
  ·rw[if_neg (by simp[c2])]
   refine Ac1 (Ac1 (Ac1 {rfl,Ad1 ?_}));rw[show (ub0 s.heap).blt a b=false from yj2.mpr 'o'] at h;exact h
  ·rw[if_pos (by simp[c2])]
   refine Aa1 (wx7 (Ac1 (Ac1 (Ac1 {rfl,Ad1 ?_}))));rw[show (ub0 s.heap).blt a b=decide (a.2<b.2) from decide_eq_decide.mpr 'o'] at h;exact h
 ·rw[if_pos (by simp[c1])]
  refine Aa1 (oneLt_int (Ac1 (Ac1 (Ac1 {rfl,Ad1 ?_}))));rw[show (ub0 s.heap).blt a b=decide (a.1<b.1) from decide_eq_decide.mpr 'o'] at h;exact h
theorem yl2{α β:Type}{f:α->Sem β}{g:α->β}:∀(l:List α) (Q:List β->Shared->Prop),(∀x∈l,∀R:β->Shared->Prop,R (g x) s->wpAny 'r' A (f x) R E s)->Q (l.map g) s->wpAny 'r' A (l.mapM f) Q E s
 | [],Q,_,h=>by rw[List.mapM_nil];exact Ac1 h
 | x::l,Q,k,h=>by
   rw[List.mapM_cons];exact Aa1 (k x (Bi0 ..) _ (Aa1 (yl2 l _ (λy hy=>k y (Bg0 _ hy)) (Ac1 h))))
instance fst?(h:Heap)(v:Value):Option Value:=match v with
 | .ref a=>match h.get? a with
   | some o=>match o.data with
     | .seq xs _=>xs[0]?
     | _=>none
   | none=>none
 | _=>none
def xg1(v:Value):firstOfTuple' v=(do
 if (<-typeOf v) != .type "tuple" then return none
 return (<-Builtin.List.listItems v)[0]?):=rfl
def vd0.fst{h:Heap}{v:Value}{p:Int×Int}(z:vd0 h v p):∃t,fst? h v=some (.int p.1 t):=by
 obtain⟨a,o,n,t,u,rfl,g,_,d⟩:=z;exact{t,by simp[fst?,g,d]}
def xu7{vs:List Value}(hv:∀v∈vs,∃p,vd0 s.heap v p)(h0:vs≠[]){Q:SortKind->Shared->Prop}(h:Q (tuples' true) s):wpAny 'r' A (keyKind' vs.toArray) Q E s:=by
 rw[keyKind'_eq,List.mapM_toArray];refine Aa1 ?_;rw[map_eq_pure_bind];refine Aa1 (yl2 (g:=fst? s.heap) vs _ (λv m R hR=>?_) (Ac1 ?_))
 ·obtain⟨p,z⟩:=hv v m
  obtain⟨a,o,n,t,u,rfl,g,c,d⟩:=z;rw[xg1];refine Aa1 (wpAny_typeOf (T:="tuple") ⟨o,g,c⟩ ?_);rw[if_neg 'd'];refine Aa1 (listItems_at g d (Ac1 ?_));have:fst? s.heap (.ref a)=some (.int p.1 t):=by simp[fst?,g,d]
  rw[this] at hR;exact hR
 ·have all:((vs.map (fst? s.heap)).toArray.all (·.isSome))=true:=by
   simp only[List.all_toArray,List.all_map,Cm0];intro v m;obtain⟨p,z⟩:=hv v m;obtain⟨t,e⟩:=z.fst;simp[e]
  rw[if_pos all];refine Aa1 (Aj1 ?_);have ex:∀us:List Value,(∀v∈us,∃p,vd0 s.heap v p)->∃ns:List Int,IntsAre ((us.map (fst? s.heap)).filterMap id) ns/\ns.length=us.length:=by
   intro us;induction us with
   | nil=>intro _;exact{[],.nil,rfl}
   | cons v us ih=>
     intro k;obtain⟨ns,i,l⟩:=ih λx hx=>k x (Bg0 _ hx)
     obtain⟨p,z⟩:=k v (Bi0 ..);obtain⟨t,e⟩:=z.fst;refine{p.1::ns,?_,by simp[l]};rw[Au0,e];show IntsAre (Value.int p.1 t::(us.map (fst? s.heap)).filterMap id) _;exact .cons _ _ i
  obtain⟨ns,hi,hl⟩:=ex vs hv;have et:(vs.map (fst? s.heap)).toArray.filterMap id=((vs.map (fst? s.heap)).filterMap id).toArray:=by simp
  rw[et];cases hc:(vs.map (fst? s.heap)).filterMap id with
  | nil=>
    rw[hc] at hi;cases hi;cases vs with
    | nil=>exact absurd rfl h0
    | cons _ _=>simp at hl
  | cons v1 rest=>
    rw[hc] at hi;rw[oneTypeOnly'_eq,List.mapM_toArray,mapM_typeOf_ints hi];simp only[map_pure,pure_bind];have hall:((List.map (λ_=>Value.type "int") (v1::rest)).toArray.all λx=>x == Value.type "int")=true:=by
     simp only[List.all_toArray,List.all_map,Cm0];intro _ _;rfl
    have h1:(List.map (λ_=>Value.type "int") (v1::rest)).toArray[0]?=some (Value.type "int"):=by simp
    rw[h1];simp only[hall,if_true,pure_bind];exact Ac1 h
instance vl2(a b:Int×Int):Prop:=a.1<b.1\/a.1=b.1/\a.2<=b.2
def wp4{a b:Int×Int}(h:lx b a=false):vl2 a b:=by rw[yj2] at h;unfold vl2;omega
noncomputable abbrev Up1(h:Heap)(a:Addr)(vs:List Value):Heap:=((h.update a (Obj.mapSeq λ_=>#[])).push (seqObj "tuple" vs.toArray 0)).push (seqObj "list" #[] 0)
def wt8{h:Heap}{a b:Addr}{o:Obj}{vs:List Value}(g:h.get? b=some o)(ne:b≠a):(Up1 h a vs).get? b=some o:=by
 have hb:=Heap.lt_size g;unfold Up1;rw[Cz0 _ _ _ (by rw[size_push',Heap.size_update];exact As0 (Nat.lt_succ_of_lt hb)),Cz0 _ _ _ (by rw[Heap.size_update];exact As0 hb),Heap.get?_update_ne _ _ _ _ ne];exact g
end Ts
namespace L2
open PySem PySem.Spec PyProof PyProof.Rows Ts
theorem yy4{α β:Type}{F:α->β->Prop}{bs bs':List β}(p:bs'.Perm bs):∀{as:List α},Paired F as bs->∃as',as'.Perm as/\Paired F as' bs':=by
 induction p with
 | nil=>intro as h;exact{as,.refl _,h}
 | cons x _ ih=>
   intro as h;cases h with
   | cons h1 h2=>
     obtain⟨as',p',h'⟩:=ih h2;exact{_,p'.cons _,.cons h1 h'}
 | swap x y l=>
   intro as h;cases h with
   | cons h1 h2=>cases h2 with
     | cons h3 h4=>exact{_,List.Perm.swap ..,.cons h3 (.cons h1 h4)}
 | trans _ _ ih1 ih2=>
   intro as h;obtain⟨as1,p1,h1⟩:=ih2 h;obtain⟨as2,p2,h2⟩:=ih1 h1;exact{as2,p2.trans p1,h2}
noncomputable abbrev P2:=Int×Int
instance lxB(a b:P2):Bool:=decide (a.1<b.1\/a.1=b.1/\a.2<=b.2)
instance vw9(a:P2):List P2->List P2
 | []=>[a]
 | b::l=>if lxB a b then a::b::l else b::vw9 a l
instance vg2(l:List P2):List P2:=l.foldr vw9 []
theorem ye8(a:P2):∀l,(vw9 a l).Perm (a::l)
 | []=>.refl _
 | b::l=>by
   unfold vw9;split
   ·exact .refl _
   ·exact((ye8 a l).cons b).trans (List.Perm.swap ..)
theorem zx9:∀l,(vg2 l).Perm l
 | []=>.refl _
 | a::l=>(ye8 a (vg2 l)).trans ((zx9 l).cons a)
def xl2(h1:vl2 a b)(h2:vl2 b c):vl2 a c:=by unfold vl2 at *;omega
def xt0(h1:vl2 a b)(h2:vl2 b a):a=b:=by unfold vl2 at *;exact Prod.ext 'o' 'o'
open H in
theorem xw5(a:P2):∀l,l.Pairwise vl2->(vw9 a l).Pairwise vl2
 | [],_=>Cu0 _ _
 | b::l,h=>by
   have h':=Bm0.mp h;unfold vw9;split
   ·rename_i q
    have q:vl2 a b:=(of_decide_eq_true q:a.1<b.1\/a.1=b.1/\a.2<=b.2);refine Bm0.mpr {λx hx=>?_,h};rcases Aj0.mp hx with rfl | hx
    ·exact q
    ·exact xl2 q (h'.1 x hx)
   ·rename_i q
    have q:vl2 b a:=by
     have:¬(a.1<b.1\/a.1=b.1/\a.2<=b.2):=λz=>q (Ap1 z)
     unfold vl2;omega
    refine Bm0.mpr {λx hx=>?_,xw5 a l h'.2};rcases Aj0.mp ((ye8 a l).mem_iff.mp hx) with rfl | hx
    ·exact q
    ·exact h'.1 x hx
theorem xc5:∀l,(vg2 l).Pairwise vl2
 | []=>List.Pairwise.nil
 | a::l=>xw5 a _ (xc5 l)
def wf4(p:m.Perm l)(u:m.Pairwise vl2):m=vg2 l:=
 (p.trans (zx9 l).symm).eq_of_pairwise (λa b _ _ h1 h2=>xt0 h1 h2) u (xc5 l)
noncomputable abbrev PrV(H:Hp):List V->List P2->Prop:=Paired λv p=>∃b,v=.ref b/\H b=some (.tup [.int p.1,.int p.2])
section
variable{X:Cx}{S:Type}{W:Wd S}{c:Dx W}{g ga gb gc:Gr}{a b:Expr}{fa fb fc:Fn S}{pos p2:Pos}
noncomputable abbrev prD(p:P2):D:=.tup [.int p.1,.int p.2]
instance vg0:List D->Option (List P2)
 | []=>some []
 | .tup [.int x,.int y]::l=>(vg0 l).map λr=>(x,y)::r
 | _=>none
theorem yd5:∀ps:List P2,vg0 (ps.map prD)=some ps
 | []=>rfl
 | p::ps=>by rw[Au0];unfold vg0;rw[yd5 ps];rfl
open H in
theorem ym2{K:PySem.W.Frag}{A:Addr->Prop}{H:Hp}:∀{l:List D} {vs:List V} {ps:List P2},vg0 l=some ps->IsL K A H l vs->PrV H vs ps
 | [],vs,ps,e,h=>by cases e;rw[IsL.nil.mp h];exact .nil
 | d::l,vs,ps,e,h=>by
   obtain⟨v,r,e1,i1,i2⟩:=IsL.cons.mp h;unfold vg0 at e;split at e
   ·rename_i he;cases he
   ·rename_i x y m he
    cases he;cases q:vg0 l with
    | none=>rw[q] at e;cases e
    | some rs=>
      rw[q] at e;cases e;obtain⟨b,ws,e2,hb,i3⟩:=Is.tup_iff.mp i1;obtain⟨v1,r1,e3,j1,j2⟩:=IsL.cons.mp i3;obtain⟨v2,r2,e4,j3,j4⟩:=IsL.cons.mp j2;rw[Is.int_iff.mp j1] at e3;rw[Is.int_iff.mp j3,IsL.nil.mp j4] at e4;rw[e1];refine .cons {b,e2,?_} (ym2 q i2);rw[hb,e3,e4]
   ·cases e
theorem xq2{K:PySem.W.Frag}{A:Addr->Prop}{H:Hp}:∀{ps:List P2} {vs:List V},PrV H vs ps->IsL K A H (ps.map prD) vs
 | _,_,.nil=>IsL.nil.mpr rfl
 | _,_,.cons h t=>IsL.cons.mpr {_,_,rfl,by
   obtain⟨b,e,hb⟩:=h;rw[e];exact Is.tup hb (IsL.cons.mpr {_,_,rfl,Is.int_iff.mpr rfl,IsL.cons.mpr {_,_,rfl,Is.int_iff.mpr rfl,IsL.nil.mpr rfl}}),xq2 t}
theorem yn8:∀ps:List P2,D.immL (ps.map prD)=true
 | []=>rfl
 | n::ns=>by simp[D.immL,D.imm,yn8 ns]
instance xd9:List D->Option D
 | [.lst l]=>(vg0 l).bind λps=>if ps.length<128 then some (.lst ((vg2 ps).map prD)) else none
 | _=>none
open H in
def wg2{K:PySem.W.Frag}(hK:c.K=K):vf4 c (λxs H Q=>∃(a:Addr) (vs:List V) (ps:List P2),xs=[.ref a]/\SqL K H a vs/\PrV H vs ps/\ps.length<128/\∀p vs',H p=none->PrV H vs' (vg2 ps)->Q (.ref p) (upd H p (.lst vs'))) xd9:=by
 subst hK;intro l vs H st d Q ok z e q;unfold xd9 at e;split at e
 ·rename_i m
  cases qq:vg0 m with
  | none=>rw[qq] at e;cases e
  | some ps=>
    rw[qq] at e;have e:(if ps.length<128 then some (D.lst ((vg2 ps).map prD)) else none)=some d:=e;split at e
    ·rename_i h128
     cases e;obtain⟨v,r,e1,i1,i2⟩:=IsL.cons.mp z;obtain⟨a,us,ea,_,s1,i3⟩:=Is.lst_iff.mp i1;rw[IsL.nil.mp i2,ea] at e1;exact{a,us,ps,e1,.of s1,ym2 qq i3,h128,λp vs' hp w=>q _ _ (Ext.laid hp) (zd9 ok hp) (New.lst ok hp (λ_ n=>n) (yn8 _) (xq2 (A:=λb=>¬W.mv b) w))}
    ·cases e
 ·cases e
end
end L2
namespace HT
open PySem PyProof PyProof.Rows
end HT
namespace L2
open PySem PySem.Spec PyProof PyProof.Rows
section
variable{X:Cx}{S:Type}{W:Wd S}{c:Dx W}{g ga gb gc:Gr}{a b:Expr}{fa fb fc:Fn S}{pos p2:Pos}
end
end L2
namespace HT
open PySem PyProof PyProof.Rows Ts
section
variable{prog:Program}{w:World}{A:Around}{R:Result->Shared->Prop}{I:Addr}{fp wr:List Addr}{n:Nat}{P:Nat->Value->Prop}{St:Nat->Heap->Prop}{base:Heap}{E:Value->Shared->Prop}{s:Shared}
def wx8(a b:Int×Int):vg6 [a.1,a.2] [b.1,b.2]=lx a b:=by
 unfold lx;by_cases h1:a.1<b.1
 ·simp[vg6,h1];omega
 ·by_cases h2:a.1=b.1
  ·simp[vg6,h2];omega
  ·simp[vg6,h1,h2]
def vd0.tup{h:Heap}{v:Value}{p:Int×Int}(z:vd0 h v p):∃a items,v=.ref a/\IsTup h a items/\IntsAre items.toList [p.1,p.2]:=by
 obtain⟨a,o,n,t,u,rfl,g,c,d⟩:=z;exact{a,_,rfl,⟨o,g,c,n,d⟩,.cons _ _ (.cons _ _ .nil)}
def lt_two(hu:A.units<cLine)(x:vd0 s.heap u p)(y:vd0 s.heap v q)(h:Q (.bool (lx p q)) s):wpAny 'r' A (richCompare .Lt u v) Q E s:=by
 obtain⟨a,is,rfl,ta,ia⟩:=vd0.tup x;obtain⟨b,js,rfl,tb,ib⟩:=vd0.tup y;rw[<-wx8] at h;exact xl3 ta tb ia ib hu h
end
end HT
namespace L2
open PySem PySem.Spec PyProof PyProof.Rows Ts
section
variable{X:Cx}{S:Type}{W:Wd S}{c:Dx W}{g ga gb gc:Gr}{a b:Expr}{fa fb fc:Fn S}{pos p2:Pos}
end
def g0{α:Type}{a:α}{l:List α}:(a::l)[0]?=some a:=rfl
def gS{α:Type}{a:α}{l:List α}{i:Nat}:(a::l)[i+1]?=l[i]?:=rfl
def s0{α:Type}{a b:α}{l:List α}:(a::l).set 0 b=b::l:=rfl
def sS{α:Type}{a b:α}{l:List α}{i:Nat}:(a::l).set (i+1) b=a::l.set i b:=rfl
def lC{α:Type}{a:α}{l:List α}:(a::l).length=l.length+1:=rfl
def lN{α:Type}:([]:List α).length=0:=rfl
def rl1_{α:Type}{i:Nat}:([]:List α)[i]?=none:=rfl
def rl2_{α β:Type}{f:α->β}{a:α}{l:List α}:(a::l).map f=f a::l.map f:=rfl
def rl3_{α β:Type}{f:α->β}:([]:List α).map f=[]:=rfl
def rl4_{α β:Type}{a:α}{f:α->Option β}:(some a).bind f=f a:=rfl
def rl5_{α:Type}{a:α}{o:Option α}:(some a).or o=some a:=rfl
def rl6_{α:Type}{o:Option α}:(none:Option α).or o=o:=rfl
def rl7_{α:Type}{a:α}:List.replicate 0 a=[]:=rfl
def rl8_{α:Type}{a:α}{n:Nat}:List.replicate (n+1) a=a::List.replicate n a:=rfl
def rl9_{α:Type}{a:α}{l m:List α}:(a::l)++m=a::(l++m):=rfl
def rl0_{α:Type}{l:List α}:[]++l=l:=rfl
def EV_:(type_of% @D.bl.injEq)/\(type_of% @D.int.injEq)/\(type_of% @D.str.injEq)/\(type_of% @Nat.zero_add)/\(type_of% @if_true.{1})/\(type_of% @if_false.{1})/\(type_of% @Bool.and_true)/\(type_of% @Bool.true_and)/\(type_of% @Bool.and_self)/\(type_of% @Bool.false_eq_true)/\(type_of% @Option.some.injEq.{0})/\(type_of% @exists_eq_left'.{1})/\(type_of% @exists_eq_left.{1})/\(type_of% @exists_eq_right.{1})/\(type_of% @true_or)/\(type_of% @or_true)/\(type_of% @true_and)/\(type_of% @and_true)/\(type_of% @Bool.not_true)/\(type_of% @Bool.not_false):=
 {@D.bl.injEq,@D.int.injEq,@D.str.injEq,@Nat.zero_add,@if_true.{1},@if_false.{1},@Bool.and_true,@Bool.true_and,@Bool.and_self,@Bool.false_eq_true,@Option.some.injEq.{0},@exists_eq_left'.{1},@exists_eq_left.{1},@exists_eq_right.{1},@true_or,@or_true,@true_and,@and_true,@Bool.not_true,@Bool.not_false}
section
variable{S:Type}
instance fP(S:Type)(p:Rho->Option D):Fn S:=λZ st=>vd2 (p Z) st
instance aP(S:Type)(q:Rho->Option (List D)):FnA S:=λZ st=>vd2 (q Z) st
instance tP(S:Type)(q:Rho->Option Bool):FnT S:=λZ st=>vd2 (q Z) st
instance vr(i:Nat):Rho->Option D:=λZ=>rd Z i
instance cn(d:D):Rho->Option D:=λ_=>some d
instance o2(o:D->D->Option D)(p q:Rho->Option D):Rho->Option D:=λZ=>(p Z).bind λa=>(q Z).bind λb=>o a b
instance nl:Rho->Option (List D):=λ_=>some []
instance cs(p:Rho->Option D)(q:Rho->Option (List D)):Rho->Option (List D):=λZ=>(p Z).bind λa=>(q Z).bind λl=>some (a::l)
instance o1(o:List D->Option D)(q:Rho->Option (List D)):Rho->Option D:=λZ=>(q Z).bind o
instance ti(T:Bt)(p:Rho->Option D):Rho->Option D:=λZ=>(p Z).bind λd=>some (.bl (isI T d))
instance tb(p:Rho->Option D):Rho->Option Bool:=λZ=>(p Z).bind D.bool?
open H in
theorem uk6{o:D->D->Option D}{p q:Rho->Option D}:f2 S o (fP S p) (fP S q)=fP S (o2 o p q):=by
 funext Z st;unfold f2 fP o2;cases p Z with
 | none=>rfl
 | some a=>cases q Z<;>rfl
open H in
theorem ws6{p:Rho->Option D}{q:Rho->Option (List D)}:vf8 S (fP S p) (aP S q)=aP S (cs p q):=by
 funext Z st;unfold vf8 fP aP cs;cases p Z with
 | none=>rfl
 | some a=>cases q Z<;>rfl
open H in
def un6{o:List D->Option D}{q:Rho->Option (List D)}:fA S o (aP S q)=fP S (o1 o q):=by
 funext Z st;unfold fA fP aP o1;cases q Z<;>rfl
open H in
def ug9{T:Bt}{p:Rho->Option D}:fIs S T (fP S p)=fP S (ti T p):=by
 funext Z st;unfold fIs fP ti;cases p Z<;>rfl
open H in
def un5{p:Rho->Option D}:fB S (fP S p)=tP S (tb p):=by
 funext Z st;unfold fB fP tP tb;cases p Z<;>rfl
def wp_fP{p:Rho->Option D}{Z:Rho}{st:S}{Q:D->S->Prop}{E:Exn->S->Prop}:wpR (fP S p Z st) Q E↔wpR (vd2 (p Z) st) Q E:=Iff.rfl
def wp_aP{p:Rho->Option (List D)}{Z:Rho}{st:S}{Q:List D->S->Prop}{E:Exn->S->Prop}:wpR (aP S p Z st) Q E↔wpR (vd2 (p Z) st) Q E:=Iff.rfl
def wp_tP{p:Rho->Option Bool}{Z:Rho}{st:S}{Q:Bool->S->Prop}{E:Exn->S->Prop}:wpR (tP S p Z st) Q E↔wpR (vd2 (p Z) st) Q E:=Iff.rfl
def boS{α β:Type}{a:α}{f:α->Option β}:(some a).bind f=f a:=rfl
def dbb{b:Bool}:D.bool? (.bl b)=some b:=rfl
def za5{i j pos}:DE X c g (.Constant (.int i) j pos) (fP S (cn (.int i))):=va9
def ze2{x j pos}:DE X c g (.Constant (.str x) j pos) (fP S (cn (.str x))):=va5
def zs2{i j pos}:DE X c g (.Constant (.bool i) j pos) (fP S (cn (.bl i))):=uh4
def zn1{j pos}:DE X c g (.Constant .none j pos) (fP S (cn .non)):=va7
def za0{i:Nat}{x:Str}{pos:Pos}(h:PE X (.Name x pos) (vj0 i)):DE X c .R (.Name x pos) (fP S (vr i)):=va4 h
def zt3{x:Str}{i:Int}{pos:Pos}(hc:∃t,X.mg x=some (.int i t))(hg:Gl X x)(hd:autoParam ((x == ("__debug__" : Str))=false) uD):DE X c g (.Name x pos) (fP S (cn (.int i))):=wf9 hc hg hd
def za1:DA X c [] (aP S nl):=vb3
def g2_(h:DE X c g e (f2 S o (fP S p) (fP S q))):DE X c g e (fP S (o2 o p q)):=uk6▸h
def gA_(h:DE X c g e (fA S oA (aP S qa))):DE X c g e (fP S (o1 oA qa)):=un6▸h
def gI_(h:DE X c g e (fIs S T (fP S p))):DE X c g e (fP S (ti T p)):=ug9▸h
def gC_(h:DA X c es (vf8 S (fP S p) (aP S qa))):DA X c es (aP S (cs p qa)):=ws6▸h
def gB_(h:DT X c e (fB S (fP S p))):DT X c e (tP S (tb p)):=un5▸h
def gT_{e:Expr}(h:DT X c e (fB S (f2 S o (fP S p) (fP S q)))):DT X c e (tP S (tb (o2 o p q))):=gB_ (uk6▸h)
end
def wk6{S:Type}{F G:FnS S}{Z:Rho}{st:S}{Q:Fl->S->Prop}{E:Exn->S->Prop}(h:∀P:Fl->S->Prop,(∀Z1 st1,wpR (G Z1 st1) Q E->P (.nx Z1) st1)->(∀d st1,Q (.rt d) st1->P (.rt d) st1)->(∀r st1,Q (.bk r) st1->P (.bk r) st1)->(∀r st1,Q (.ct r) st1->P (.ct r) st1)->wpR (F Z st) P E):wpR (vt1 S F G Z st) Q E:=
 zb6.mpr (h _ (λ_ _ z=>z) (λ_ _ z=>z) (λ_ _ z=>z) (λ_ _ z=>z))
section
variable{X:Cx}{S:Type}{W:Wd S}{c:Dx W}{g:Gr}{e a b:Expr}{es:List Expr}{o:D->D->Option D}{p q:Rho->Option D}{qa:Rho->Option (List D)}{pos:Pos}{f fa fb:Fn S}{rr:FnA S}{ga gb gc:Gr}{fc:Fn S}{p2:Pos}{fk:Fn S}{Z:Rho}{st:S}{Q:D->S->Prop}{E:Exn->S->Prop}{out:Str}{fs:List (Fn S)}
def vc3{x:Str}(h:DE X c .R (.Name x pos) (fP S p))(hr:DA X c es (aP S qa)):DA X c (.Name x pos::es) (aP S (cs p qa)):=gC_ (zi0 h hr)
def vs1{x:Str}(h:DE X c .R (.Name x pos) f)(hr:DA X c es rr):DA X c (.Name x pos::es) (vf8 S f rr):=zi0 h hr
def vd3{k:Const}{j}(h:DE X c .R (.Constant k j pos) (fP S p))(hr:DA X c es (aP S qa)):DA X c (.Constant k j pos::es) (aP S (cs p qa)):=gC_ (zi0 h hr)
def vq1{k:Const}{j}(h:DE X c .R (.Constant k j pos) f)(hr:DA X c es rr):DA X c (.Constant k j pos::es) (vf8 S f rr):=zi0 h hr
def vl3{a b:Expr}(h:DE X c .R (.Subscript a b pos) (fP S p))(hr:DA X c es (aP S qa)):DA X c (.Subscript a b pos::es) (aP S (cs p qa)):=gC_ (zi0 h hr)
def vz5{a b:Expr}(h:DE X c .R (.Subscript a b pos) f)(hr:DA X c es rr):DA X c (.Subscript a b pos::es) (vf8 S f rr):=zi0 h hr
def vv8{as:List Expr}{x1}(h:DE X c .R (.Tuple as x1 pos) (fP S p))(hr:DA X c es (aP S qa)):DA X c (.Tuple as x1 pos::es) (aP S (cs p qa)):=gC_ (zi0 h hr)
def ug5{as:List Expr}{x1}(h:DE X c .R (.Tuple as x1 pos) f)(hr:DA X c es rr):DA X c (.Tuple as x1 pos::es) (vf8 S f rr):=zi0 h hr
def vq2{a:Expr}{as:List Expr}{ks}(h:DE X c .R (.Call a as ks pos) (fP S p))(hr:DA X c es (aP S qa)):DA X c (.Call a as ks pos::es) (aP S (cs p qa)):=gC_ (zi0 h hr)
def vv7{a:Expr}{as:List Expr}{ks}(h:DE X c .R (.Call a as ks pos) f)(hr:DA X c es rr):DA X c (.Call a as ks pos::es) (vf8 S f rr):=zi0 h hr
def vr4{a b:Expr}{op}(h:DE X c .R (.BinOp a op b pos) (fP S p))(hr:DA X c es (aP S qa)):DA X c (.BinOp a op b pos::es) (aP S (cs p qa)):=gC_ (zi0 h hr)
def vr3{a b:Expr}{op}(h:DE X c .R (.BinOp a op b pos) f)(hr:DA X c es rr):DA X c (.BinOp a op b pos::es) (vf8 S f rr):=zi0 h hr
def un4{a:Expr}{op}(h:DE X c .R (.UnaryOp op a pos) f)(hr:DA X c es rr):DA X c (.UnaryOp op a pos::es) (vf8 S f rr):=zi0 h hr
def uc0{a:Expr}{gs scope}(h:DE X c .R (.ListComp a gs scope pos) f)(hr:DA X c es rr):DA X c (.ListComp a gs scope pos::es) (vf8 S f rr):=zi0 h hr
def gU_{x1}(h:DA X c es (aP S qa)):DE X c g (.Tuple es x1 pos) (fP S (o1 vn1 qa)):=gA_ (zs1 h)
def gL_(h:DA X c es (aP S qa)):DE X c g (.List es pos) (fP S (o1 vq9 qa)):=gA_ (xy8 h)
def gX_(h:c.K=X.K)(ha:DE X c .R a (fP S p))(hb:DE X c .R b (fP S q))(hs:yh2 b):DE X c g (.Subscript a b pos) (fP S (o2 oIx p q)):=g2_ (vw4 xv7 (vz0 h) ha hb hs)
def gY_(h:c.K=X.K)(ha:DE X c .R a fa)(hb:DE X c .R b fb)(hs:yh2 b):DE X c g (.Subscript a b pos) (f2 S oIx fa fb):=vw4 xv7 (vz0 h) ha hb hs
def gP_(h:c.K=X.K)(ha:DE X c .R a (fP S p))(hb:DE X c .R b (fP S q)):DE X c g (.BinOp a .Add b pos) (fP S (o2 ve7 p q)):=g2_ (vg1 xr8 (xs1 h) ha hb)
def gp_(h:c.K=X.K)(ha:DE X c .R a fa)(hb:DE X c .R b fb):DE X c g (.BinOp a .Add b pos) (f2 S ve7 fa fb):=vg1 xr8 (xs1 h) ha hb
end
open PySem PySem.Spec PyProof PyProof.Rows
section
variable{S:Type}{i j:Nat}{Z:Rho}{st:S}{Q:Fl->S->Prop}{E:Exn->S->Prop}
end
instance wu2(tk tv:TE):TE:=λY H Q=>∀p,H p=none->yr1 [(tk,tv)] Y (upd H p (.dT [])) λps H2=>∃ks b y,ps=[(.ref b,y)]/\vk4 H2 b ks/\H2 p=some (.dT [])/\Q (.ref p) (upd H2 p (.dT [(ks,y)]))
theorem wd2(hu:X.A.units+2<cLine)(hk:PE X k tk)(hv:PE X v tv):PE X (.Dict [some k] [v] pos) (wu2 tk tv):=by
 intro A3 s Y H Q I q;have hn:=I.hok.fresh (Ae0 s.heap.objs.size);have I1:=I.laid (a:=s.heap.objs.size) (o:=.dT []) (h':=s.heap.push { cls:=.type "dict",data:=.dict #[] }) (t':=s.toks) (λ_ _ q=>Ab0 _ q) (Ae0 _) (yo7 s.heap I.big);refine wpAny_Dict_any rfl rfl 'd' (show (1:Nat)<=15 by decide) (thn (yb4 hk hv yy2 A3 _ Y _ _ I1 (q _ hn)) λws s2 hI125=>?_);obtain⟨ps,H2,I2,rel,ks,b,y,ep,hb,hp,q2⟩:=hI125;subst ep;cases rel with
 | @cons a0 w0 as bs h0 t0=>
   cases t0;obtain⟨u,r⟩:=w0;obtain⟨ru,rr⟩:=h0;cases (show u=Value.ref b from ru);obtain⟨z,hd,xs,rel,dd⟩:=vw0 I2.hok hp;cases rel;have one:storeAll s.heap.objs.size [(Value.ref b,r)]=(do dictSet s.heap.objs.size (.ref b) r;pure PUnit.unit):=by
    unfold storeAll;simp only[List.forIn_cons,List.forIn_nil,bind_assoc,pure_bind]
   rw[one];refine Aa1 (wpAny_dictSet_heap (knd:=zj4 X.prog X.w) (show X.A.units+1<cLine by omega) (key_of I2.hok hb) dd λh' dd' hs=>Ac1 {.ref s.heap.objs.size,_,?_,rfl,q2});obtain⟨qo,es,epc,hq,h2,h3,h4,_,h5⟩:=dd';refine yg2 I2 (by rw[hp];exact True.intro) hs ⟨qo,hq⟩ {by show 1<=sizeLine;decide,hd,[(ks,b,r)],.cons {rfl,?_,rr} .nil,qo,es,epc,hq,h2,h3,h4,h5};exact hb.keeps λc ys e=>by rw[za8 (vp2 e hp (λz=>nomatch z))];exact e
section
variable{X:Cx}{S:Type}{W:Wd S}{c:Dx W}{g:Gr}
instance wj5(S:Type)(fk fv:Fn S):Fn S:=λZ st=>(fk Z st).bind λdk st1=>(fv Z st1).bind λdv st2=>match zc0 dk with
 | some kk=>if dv.imm=true then .ok (.dct [.non,vc4 kk] [dv]) st2 else .bad
 | none=>.bad
def xh2(hu:X.A.units+2<cLine)(hk:DE X c .R k fk)(hv:DE X c .R v fv):DE X c g (.Dict [some k] [v] pos) (wj5 S fk fv):=
 (wd2 hu hk hv).imp λY H Q hI45=>by
  obtain⟨Z,st,R,ok,w⟩:=hI45;intro p hp;have np:¬W.mv p:=zl4 ok hp;refine{Z,st,R.ext ok (Ext.laid hp),zd9 ok hp,za6 (za2.mp w) (λdk st1 q x H1 e1 ok1 z1=>?_) λx st1 q H1 e1 ok1=>q H1 ((Ext.laid hp).trans e1) ok1};refine{Z,st1,(R.ext ok (Ext.laid hp)).ext (zd9 ok hp) e1,ok1,za6 (za2.mp q) (λdv st2 q y H2 e2 ok2 z2=>?_) λx st2 q H2 e2 ok2=>q H2 (((Ext.laid hp).trans e1).trans e2) ok2};cases qk:zc0 dk with
  | none=>simp only[qk] at q;exact q.elim
  | some kk=>
    simp only[qk] at q;by_cases im:dv.imm=true
    ·rw[if_pos im] at q
     have zk:Is c.K (λb=>¬W.mv b) H2 dk x:=(show Val c .R Y Z _ H1 dk x from z1).ext e2 ok1;obtain⟨b,eb,hb,_⟩:=zr8 qk zk;have hp1:=e1 p _ (zb3 (H:=H) (o:=.dT [])) np;have hp2:H2 p=some (.dT []):=e2 p _ hp1 np;have ex:Ext W H (upd H2 p (.dT [(kk,y)])):=λb o hb nm=>by
      have b1:b≠p:=zb5 hb hp;rw[za8 b1];exact e2 b o (e1 b o (by rw[za8 b1];exact hb) nm) nm
     have ks:∀b o,H2 b=some o->vo7 o->upd H2 p (.dT [(kk,y)]) b=some o:=λb o h s=>by
      by_cases e:b=p
      ·subst e;rw[hp2] at h;cases h;rcases s with⟨u,e⟩ | ⟨ob,u,e⟩<;>cases e
      ·rw[za8 e];exact h
     have kt:vd1 (λ_=>False) (λ_=>False) H2 (upd H2 p (.dT [(kk,y)])):={ks,λ_ _ f=>False.elim f};have zy:Is c.K (λ_=>False) (upd H2 p (.dT [(kk,y)])) dv y:=Is.mono kt (Is.ofImm im (show Is c.K (λb=>¬W.mv b) H2 dv y from z2));refine{kk,b,y,by rw[eb],hb,hp2,q _ _ ex (yd8 ok2 np hp2) (New.val R (Is.dct_iff.mpr {p,[y],rfl,⟨np,hp⟩,IsL.one (Is.ofImm im zy),.inr {[kk],rfl,rfl,zb3}}) g)}
    ·rw[if_neg im] at q;exact q.elim
theorem yq4{fk fv:Fn S}{Z:Rho}{st:S}{Q:D->S->Prop}{E:Exn->S->Prop}:wpR (wj5 S fk fv Z st) Q E↔wpR (fk Z st) (λdk st1=>wpR (fv Z st1) (λdv st2=>∃kk,zc0 dk=some kk/\dv.imm=true/\Q (.dct [.non,vc4 kk] [dv]) st2) E) E:=wpB λdk st1=>wpB λdv st2=>by
 cases qk:zc0 dk with
 | none=>exact{λh=>h.elim,λ⟨kk,e,_⟩=>by cases e}
 | some kk=>
   show wpR (if dv.imm=true then Res.ok (D.dct [.non,vc4 kk] [dv]) st2 else .bad) Q E↔_;by_cases im:dv.imm=true
   ·rw[if_pos im];exact{λh=>⟨kk,rfl,im,h⟩,λ⟨k',e,_,h⟩=>by cases e;exact h}
   ·rw[if_neg im];exact{λh=>h.elim,λ⟨k',e,h,_⟩=>absurd h im}
end
noncomputable abbrev vn7(es:Array DictEntry)(ep:Nat):Obj:={ cls:=.type "dict",dict:=none,data:=.dict es ep,slots:=#[] }
noncomputable abbrev vk7(d:Addr)(i n ep:Nat):Obj:={ cls:=.type "dict_keyiterator",dict:=none,data:=.fields #[.ref d,.int i 0,.int n 0,.int ep 0],slots:=#[] }
def wp7(it d:Addr)(i n ep:Nat)(es:Array DictEntry)(e:DictEntry)(hn:es.size=n)(he:es[i]?=some e) :
 Meets (Builtin.«dict_keyiterator.__next__» {[.ref it],[]}) (λ_ R s=>s.heap.get? it=some (vk7 d i n ep)/\s.heap.get? d=some (vn7 es ep)/\R (.ok (.ret e.key)) { s with heap:=s.heap.update it (Obj.mapFields λx=>x.setIfInBounds 1 (rawInt ((i:Int)+1))),toks:=s.toks }):=
 .of_wp λprog w A R s h=>by
  obtain⟨hp,g,dd,tk,os⟩:=s;obtain⟨hl,hd,h⟩:=h;wp_walk;have e1:(if ((i:Nat):Int)<0 then none else es[((i:Nat):Int).toNat]?)=some e:=by rw[if_neg 'o',Bp0,he]
  simp only[e1]
  wp_walk
  exact{_,rfl,h}
def wx9(it d:Addr)(n ep:Nat)(es:Array DictEntry)(hn:es.size=n)(hh:A.handled=none)(h1:s.heap.get? it=some (vk7 d n n ep))(h2:s.heap.get? d=some (vn7 es ep))(h:∀a h' tk,(∀b o,b≠it->s.heap.get? b=some o->h'.get? b=some o)->(∃o,h'.get? a=some o/\o.cls=.type "StopIteration")->E (.ref a) { s with heap:=h',toks:=tk }) :
 wpAny 'r' A (Builtin.«dict_keyiterator.__next__» {[.ref it],[]}) R E s:=by
 obtain⟨hp,g,dd,tk,os⟩:=s;wp_walk;have e1:(if ((n:Nat):Int)<0 then none else es[((n:Nat):Int).toNat]?)=none:=by rw[if_neg 'o',Bp0,Cy0 'o']
 simp only[e1]
 wp_walk
 unfold raiseNew;refine Aa1 (wpAny_handled ?_);rw[hh];refine Aa1 (Ac1 (wpAny_throw (h _ _ _ (λb o hb e=>?_) {_,Ag0 _ rfl,rfl})));exact Ab0 _ (Ab0 _ ((Heap.get?_update_other _ _ (Ne.symm hb)).trans e))
def wp6(d:Addr)(es:Array DictEntry)(ep:Nat)(hd:(d == sysModules)=false) :
 Meets (Builtin.«dict.__iter__» {[.ref d],[]}) (λ_ R s=>s.heap.get? d=some (vn7 es ep)/\R (.ok (.ret (.ref s.heap.objs.size))) { s with heap:=s.heap.push (vk7 d 0 es.size ep),toks:=s.toks }):=
 .of_wp λprog w A R s h=>by
  obtain⟨hp,g,dd,tk,os⟩:=s;obtain⟨hl,h⟩:=h;wp_walk;exact{_,rfl,h}
open H in
def xs8{i n ep:Nat}(hn:es.size=n)(he:es[i]?=some e)(h1:s.heap.get? it=some (vk7 d i n ep))(h2:s.heap.get? d=some (vn7 es ep))(h:∀h' tk,h'.get? it=some (vk7 d (i+1) n ep)->(∀b o,b≠it->s.heap.get? b=some o->h'.get? b=some o)->Q (some e.key) { s with heap:=h',toks:=tk }):wpAny 'r' A (pyNext (.ref it)) Q E s:=by
 have ty:s.TypeIs (.ref it) "dict_keyiterator":={_,h1,rfl};have new:=Heap.get?_update_self (Obj.mapFields λx=>x.setIfInBounds 1 (rawInt ((i:Int)+1))) h1 rfl;unfold pyNext;exact Aa1 (wpAny_attempt (wpAny_callSpecial?_slot (name:=Str.ofString "__next__") ty F.slot_dict_keyiterator_next (call_meets F.slot_dict_keyiterator_next ty F.entry_dict_keyiterator_next (F.args_dict_keyiterator_next_1 _) (wp7 it d i n ep es e hn he)
  {h1,h2,Ac1 (h _ _ new λb o hb g=>(Heap.get?_update_other _ _ (Ne.symm hb)).trans g)})))
open H in
def we1{n ep:Nat}(hh:A.handled=none)(hn:es.size=n)(h1:s.heap.get? it=some (vk7 d n n ep))(h2:s.heap.get? d=some (vn7 es ep))(h:∀h' tk,(∀b o,b≠it->s.heap.get? b=some o->h'.get? b=some o)->Q none { s with heap:=h',toks:=tk }):wpAny 'r' A (pyNext (.ref it)) Q E s:=by
 have ty:s.TypeIs (.ref it) "dict_keyiterator":={_,h1,rfl};unfold pyNext;refine Aa1 (wpAny_attempt (wpAny_callSpecial?_slot (name:=Str.ofString "__next__") ty F.slot_dict_keyiterator_next (Ak1 F.slot_dict_keyiterator_next ty F.entry_dict_keyiterator_next (wx9 it d n ep es hn (A:=A.in1) hh h1 h2 λa h' tk hk hc=>?_) (F.args_dict_keyiterator_next_1 _))));exact Aa1 (wpAny_isInstance (T:="StopIteration") (b:=true) hc isSubtype_stop (Ac1 (h _ _ hk)))
def xw1{ep:Nat}(hd:(d == sysModules)=false)(h2:s.heap.get? d=some (vn7 es ep))(h:Q (.ref s.heap.objs.size) { s with heap:=s.heap.push (vk7 d 0 es.size ep) }):wpAny 'r' A (pyIter (.ref d)) Q E s:=by
 have ty:s.TypeIs (.ref d) "dict":={_,h2,rfl};exact wpAny_pyIter_slot ty F.slot_dict_iter (call_meets F.slot_dict_iter ty F.entry_dict_iter (F.args_dict_iter_1 _) (wp6 d es ep hd) {h2,"dict_keyiterator",_,{_,Ag0 _ rfl,rfl},F.slot_dict_keyiterator_next.lookup,h})
def xj2(hh:A.handled=none)(it d:Addr)(hne:d≠it)(es:Array DictEntry)(ep:Nat) :
 Walks prog w A it [it,d] [it] es.size (λi v=>∃e,es[i]?=some e/\v=e.key) (λi h=>h.get? it=some (vk7 d i es.size ep)/\h.get? d=some (vn7 es ep)) where
 sub:=λb hb=>by simp at hb;simp[hb]
 frame:=λ_ _ _ st hk=>{hk it 'd' _ st.1,hk d 'd' _ st.2}
 item:=λi s Q E hi st hQ=>xs8 rfl (Bc0 hi) st.1 st.2 λh' tk a b=>hQ _ h' tk {_,Bc0 hi,rfl} {a,b d _ hne st.2} λc o hc e=>b c o (λz=>hc (by simp[z])) e
 done:=λs Q E st hQ=>we1 hh rfl st.1 st.2 λh' tk b=>hQ h' tk λc o hc e=>b c o (λz=>hc (by simp[z])) e
 self:=λi s Q E st hQ=>wpAny_pyIter_keyiter {_,st.1,rfl,rfl} hQ
def xc3(hd:(d == sysModules)=false)(es:Array DictEntry)(ep:Nat):PySem.W.KdlSrc prog w "dict" d d es.size (λi v=>∃e,es[i]?=some e/\v=e.key) (λh=>h.get? d=some (vn7 es ep)) where
 type:=λ_ hm=>{_,hm,rfl}
 there:=λ_ hm=>{Heap.lt_size hm,Heap.lt_size hm}
 keep:=λ_ _ hm hk=>hk d (.inl rfl) _ hm
 notList:=by decide
 notTuple:=by decide
 hint:=λ_ _ _ _ hm hq=>PySem.W.kdl_hint_dict {_,hm,rfl} hq
 iter:=λ_ _ hh hm=>{_,_,(λ_ _ hq=>xw1 hd hm hq),xj2 hh _ d (As0 (Heap.lt_size hm)) es ep,{Ag0 _ rfl,Ab0 _ hm}}
def xo2{n:Nat}(o1:h.get? a=some (seqObj "list" vs.toArray n)):∃m,(sortedHeap h a vs out).get? a=some (seqObj "list" out m):=by
 have la:a<h.objs.size:=Heap.lt_size o1;have o2:=get?_update_seq o1 (λ_=>(#[]:Array Value));unfold sortedHeap;have o3:(((h.update a (Obj.mapSeq λ_=>#[])).push (seqObj "tuple" vs.toArray 0)).push (seqObj "list" #[] 0)).get? a=_:=Ab0 _ (Ab0 _ o2);exact{_,get?_update_seq o3 (λ_=>out)}
def xj7(hb:b≠a)(g:h.get? b=some o):(sortedHeap h a vs out).get? b=some o:=by
 unfold sortedHeap;rw[Heap.get?_update_ne _ _ _ _ hb];exact Ab0 _ (Ab0 _ (by rw[Heap.get?_update_ne _ _ _ _ hb];exact g))
section
variable{X:Cx}{S:Type}{W:Wd S}{c:Dx W}{A3:List 'p'}{Y:St}{H:Hp}{s:Shared}{h':Heap}{k:Nat}{x:Str}{prog:Program}{w:World}{A:Around}{E:Value->Shared->Prop}{h:Heap}{g:Array GenState}{d:Drawn}{t:Nat}{os:OsState}{a C:Addr}{o:Obj}{K:PySem.W.Frag}{n:Str}{P:Program}{mg:Str->Option Value}{base:Heap}{p:Addr×Obj}
end
open PySem.SeqAt
section
variable{S:Type}{prog:Program}{w:World}{A:Around}{E:Value->Shared->Prop}{h:Heap}{g:Array GenState}{d:Drawn}{t:Nat}{os:OsState}{nm q:Str}{C N f:Addr}{bs bm bmB:List Value}{hd:Bool}{sn:List Str}{sub:List Value}{ab:Bool}{col:Option Bool}{dd:Option Addr}{k0 k1 k2 k3 k5:Option Value}{B newId initId:String}{a dx:Addr}{o:Obj}{K:PySem.W.Frag}{X:Cx}{A3:List 'p'}{Y:St}{H H':Hp}{s:Shared}{e:Addr}{h':Heap}
end
section
variable{B nm q:Str}{hd ab:Bool}{X:Cx}{A3:List 'p'}{Y:St}{H:Hp}{s:Shared}{e C dx:Addr}{o:Obj}{i j:Nat}{x y name:Str}{v:V}{N:Addr}{bs bm:List Value}{sn:List Str}{sub:List Value}{col:Option Bool}{dd:Option Addr}{k0 k1 k2 k3 k5:Option Value}{id1:String}
end
section
variable{M:Model}{A:Around}{E:Value->Shared->Prop}{s:Shared}{x T Lv0:Addr}{C v c fl:Value}{od:Option Addr}{env:Env}{outer:List Env}{base:Heap}{Q:Unit->Shared->Prop}
end
section
variable{k:Nat}{x n:Str}{S:Type}{P:Program}{w:World}{K:PySem.W.Frag}{mg:Str->Option Value}{base:Heap}{C C0 f:Addr}{st:Stmt}{fd:FuncData}{nm q qual:Str}{M:Addr}{bs bm:List Value}{sn:List Str}{sub:List Value}{ab:Bool}{col:Option Bool}{dd:Option Addr}{k0 k1 k2 k3 k5:Option Value}{x1 x2:Str}{j1 j2:Nat}{pB pA pc pe p1 p2 p3 p4 p5 p6 p7 p8 q1 q2 q3 q4 r1 r2 r3 r4:Pos}
end
section
variable{X:Cx}{S:Type}{W:Wd S}{c:Dx W}{g:Gr}{k:Nat}{x:Str}{ps:List Str}{p pos:Pos}{e:Expr}{es:List Expr}{E:XK}{C:Addr}{G:List D->Res Unit D}{f:FnA S}{nm q:Str}{hd ab:Bool}{newId:String}
end
section
variable{M:Model}{A:Around}{E:Value->Shared->Prop}{s:Shared}{x T Lv0:Addr}{C v c fl:Value}{od:Option Addr}{env:Env}{Q:Unit->Shared->Prop}{X:Cx}{A3:List 'p'}{Y:St}{H:Hp}{k:Nat}
end
section
variable{X:Cx}{S:Type}{W:Wd S}{c:Dx W}{k:Nat}{x:Str}{ps:List Str}{e:Expr}{es:List Expr}{E:XK}{C:Addr}{G:List D->Res Unit D}{f:FnA S}
end
section
variable{X:Cx}{S:Type}{W:Wd S}{c:Dx W}{i:Nat}
section
variable{Z:Rho}{st:S}{Q:Fl->S->Prop}{E:Exn->S->Prop}
end
end
section
variable{X:Cx}{S:Type}{W:Wd S}{c:Dx W}{i j:Nat}
section
variable{Z:Rho}{st:S}{Q:Fl->S->Prop}{E:Exn->S->Prop}
end
end
section
variable{S:Type}{name:Str}{id:String}{X:Cx}{W:Wd S}{c:Dx W}{g:Gr}
end
section
variable{prog:Program}{w:World}{A:Around}{E:Value->Shared->Prop}{s:Shared}{K:Type}[DecidableEq K]{knd:HeapKind prog w K}{d a:Addr}{xs:List (K×Addr×Value)}{k:K}{j:Nat}{p:Addr×Value}
end
theorem KT.at{H:Hp}{kvs:List (List vc6×V)}{xs:List (List vc6×Addr×Value)}(r:KT H kvs xs):∀{j:Nat} {k:List vc6} {y:V},kvs[j]?=some (k,y)->∃p,xs[j]?=some (k,p)/\vc7 y p.2:=by
 induction r with
 | nil=>intro j k y e;cases e
 | @cons p q ps qs hq t ih=>
   intro j k y e;cases j with
   | zero=>cases e;exact{q.2,by rw[List.getElem?_cons_zero];exact congrArg some (Prod.ext hq.1.symm rfl),hq.2.2}
   | succ j=>exact ih e
section
variable{X:Cx}{S:Type}{W:Wd S}{c:Dx W}{g:Gr}{fk:Fn S}{i:Nat}
end
def we4{ep:Nat}(hd:(d == sysModules)=false)(g:s.heap.get? d=some (vn7 es ep))(h:R (.int es.size s.toks) { s with toks:=s.toks+1 }):wpAny 'r' A (call (.builtin "dict.__len__") [.ref d]) R E s:=by
 refine Ak1 F.slot_dict_len {_,g,rfl} F.entry_dict_len ?_ (F.args_dict_len_1 _);show wpAny _ _ (PySem.dictSize d >>= _) _ _ s;unfold PySem.dictSize;refine Aa1 (Aa1 (wpAny_dictEntries g rfl (Ac1 ?_)));refine Aa1 (wpAny_pendingCount_other hd (wpAny_ret_mkInt ?_));show R (.int ((es.size:Int)+((0:Nat):Int)) s.toks) _;rw[show (es.size:Int)+((0:Nat):Int)=es.size by omega];exact h
def we5{ep:Nat}(hd:(d == sysModules)=false)(g:s.heap.get? d=some (vn7 es ep))(hz:es.size<=sizeLine)(h:Q (.int es.size (s.toks+1)) { s with toks:=s.toks+1+1 }):wpAny 'r' A (call (.builtin "len") [.ref d]) Q E s:=by
 have hs:sizeLine=16777216:=sizeLine_eq;refine Calls.call_function_entry kind_len plain_len entry_len (args_len1 _) ?_;unfold Builtin.«len»;refine Aa1 (m:=oneArg "len" _) (Ac1 (Aa1 (wpAny_callSpecial?_slot (name:=Str.ofString "__len__") {_,g,rfl} F.slot_dict_len (we4 hd g ?_))));refine Aa1 (wpAny_holding (Ac1 (Aa1 (wpAny_letGo ?_))));have n1:¬((es.size:Int)<0):=by omega
 have n2:¬((es.size:Int)>=2 ^ 63):=by omega
 dsimp only;rw[if_neg n1,if_neg n2];exact Aa1 (wpAny_mkInt (Ac1 {_,rfl,h}))
section
variable{S:Type}
def yg8:vf3 X (.builtin "len") (λxs H Q=>∃(a:Addr) (kvs:List (List vc6×V)),xs=[.ref a]/\H a=some (.dT kvs)/\kvs.length<=1000/\Q (.int kvs.length) H):=by
 intro A3 s Y H xs us Q I r h;obtain⟨a,kvs,rfl,hq,hl,q⟩:=h;obtain⟨u,rfl,r1⟩:=vh6 r;cases r1;obtain⟨z,hd,xs,rel,o,es,ep,g,ex,dat,et,nd⟩:=(show vd4 X.prog X.w H s.heap a (.dT kvs) from I.hok a _ hq);have eo:o=vn7 es ep:=by
  obtain⟨cl,di,da,sl⟩:=o;obtain⟨e1,e2,e3⟩:=ex;simp only at e1 e2 e3 dat;subst e1 e2 e3 dat;rfl
 subst eo;have hn:es.size=kvs.length:=by
  rw[<-Aw0,et,Aa0];exact(Paired.length rel).symm
 have hs:sizeLine=16777216:=sizeLine_eq;exact we5 hd g 'o' {.int kvs.length,H,I.tok _,{_,by rw[hn]},q}
instance vj9:List D->Option D
 | [.dct (.non::ks) _]=>if ks.length<=1000 then some (.int ks.length) else none
 | _=>none
open H in
def xz7:vf4 c (λxs H Q=>∃(a:Addr) (kvs:List (List vc6×V)),xs=[.ref a]/\H a=some (.dT kvs)/\kvs.length<=1000/\Q (.int kvs.length) H) vj9:=by
 intro l vs H st d Q ok z e q;unfold vj9 at e;split at e
 ·rename_i ks ws
  split at e
  ·rename_i hl
   cases e;obtain⟨v,r,e1,i1,i2⟩:=IsL.cons.mp z;obtain⟨a,us,ea,_,i3,hk⟩:=Is.dct_iff.mp i1;rw[IsL.nil.mp i2,ea] at e1;rcases hk with⟨kk,ek,_,_⟩ | ⟨kk,ek,el,hh⟩
   ·cases kk with
    | nil=>cases ek
    | cons k kk=>cases k<;>cases ek
   ·injection ek with _ ek
    subst ek;have ln:(kk.zip us).length=(kk.map vc4).length:=by rw[List.length_zip,el,Nat.min_self,Aa0,el]
    exact{a,_,e1,hh,by rw[ln];exact hl,by rw[ln];exact q _ H Ext.refl ok zl2}
  ·cases e
 ·cases e
def Inv.froze(I:Inv X A3 Y H s)(hp:H p=some u)(mu:Mut (some u))(hx:∃o,s.heap.get? p=some o):∃o,Inv X A3 Y (upd H p (.frz o u)) s:=by
 obtain⟨o,ho⟩:=hx;have no:∀b v,H b=some v->¬Mut (some v)->b≠p:=λb v e n z=>by subst z;rw[hp] at e;cases e;exact n mu
 exact{o,I.write (x:=p) (e:=p) (o:=.frz o u) (h':=s.heap) (t':=s.toks) (by rw[hp];exact mu) (.inl rfl) (λ_ _ _ e=>e) ⟨o,ho⟩
  {ho,(I.hok p u hp).stay (λ_ _ _ e=>e) (λb e=>by rw[za8 (no b _ e λz=>z)];exact e) λb xs e=>by rw[za8 (no b _ e λz=>z)];exact e}}
instance oFz:D->Option D
 | .lst l=>if D.immL l=true then some (.fl l) else none
 | .dct (.non::ks) l=>if D.immL l=true then some (.fd ks l) else none
 | _=>none
def xv4{A':Addr->Prop}{H1:Hp}{p:Addr}{u o:HO}(hp:H1 p=some u)(hs:¬vo7 u):vd1 (λ_=>False) A' H1 (upd H1 p o):=
 {λb v hb st=>by rw[za8 (λz=>by subst z;rw[hp] at hb;cases hb;exact hs st)];exact hb,λ_ _ h=>h.elim}
def Is.flSq{K:PySem.W.Frag}{A:Addr->Prop}{H:Hp}{l:List D}{v:V}(h:Is K A H (.fl l) v):∃a vs,v=.ref a/\SqL K H a vs/\IsL K A H l vs:=by
 obtain⟨a,o,vs,e,s,i⟩:=Is.fl_iff.mp h;exact{a,vs,e,.inl (.inr ⟨o,s⟩),i}
instance uf4:D->D->Option D
 | .fl l,.int i=>im (atI l i)
 | _,_=>none
open H in
def ww9{K:PySem.W.Frag}(hK:c.K=K):OpD c (rIx K) uf4:=by
 intro d1 d2 v1 v2 H st d Q ok z1 z2 e q;unfold uf4 at e;split at e
 ·rename_i l i
  obtain⟨a,vs,ea,s,z⟩:=Is.flSq z1;obtain⟨e,m⟩:=yf1 e;obtain⟨v,hv,iv⟩:=wa4 z e;exact .inl {a,vs,i,v,ea,Is.int_iff.mp z2,hK▸s,hv,q v H Ext.refl ok (New.imm m iv)}
 ·cases e
instance vu5:List D->Option D
 | [.fl l]=>some (.int l.length)
 | _=>none
open H in
def ws3{K:PySem.W.Frag}(hK:c.K=K):vf4 c (λxs H Q=>∃p ys,xs=[.ref p]/\(SqL K H p ys\/SqT K H p ys)/\Q (.int ys.length) H) vu5:=by
 subst hK;intro l vs H st d Q ok z e q;unfold vu5 at e;split at e
 ·rename_i m
  cases e;obtain⟨v,r,e1,i1,i2⟩:=IsL.cons.mp z;obtain⟨a,us,ea,s1,i3⟩:=Is.flSq i1;rw[IsL.nil.mp i2,ea] at e1;exact{a,us,e1,.inl s1,by rw[<-i3.length];exact q _ H Ext.refl ok zl2}
 ·cases e
instance D.fl?:D->Option (List D)
 | .fl l=>some l
 | _=>none
def ua3(hK:c.K=X.K)(h:DE X c .B e f):DI X c tg e (vp6 S D.fl? f):=
 (xq7 h).imp λY H R hI46=>by
  obtain⟨Z,st,R0,ok,w⟩:=hI46;refine{Z,st,R0,ok,za6 (za2.mp w) (λd st1 q v H1 e ok1 z=>?_) λx st1 q=>q};obtain⟨l,e1,q⟩:=za9.mp q;cases d with
  | fl m=>
    cases e1;obtain⟨a,o,vs,ev,s,i⟩:=Is.fl_iff.mp z;refine{a,ev,{vs,.inl (.inr ⟨o,s⟩)},q _ H1 e ok1 ?_};intro c' hK' Y2 Z2 H2 st2 k R2 ok2 j;have s2:SqL X.K H2 a vs:=.inl (.inr {o,k.frz a o _ s});have i2:IsL c.K (Av c' Y2 Z2) H2 l vs:=i.mono k;refine{λd hd=>?_,λhl=>{vs,s2,by rw[<-i2.length];exact hl}};obtain⟨v1,hv,iv⟩:=i2.get hd;exact{⟨vs,v1,s2,hv⟩,λx H3 hI47=>by
     obtain⟨e3,y⟩:=hI47;subst e3;have hx:=y vs s2;rw[hv] at hx;cases hx;exact{vk5.refl _,iv}}
  | _=>cases e1
end
section
variable{S:Type}{i:Nat}
def Rep.fz(R:Rep c H Y Z)(hi:Z[i]?=some (.own d))(ha:Y[i]?=some (some (.ref a)))(hu:H a=some u)(ns:¬vo7 u)(h:∀A',Is c.K A' (upd H a (.frz o u)) d' (.ref a)):Rep c (upd H a (.frz o u)) Y (Z.set i (.bor d'))/\Frm c H Y Z (upd H a (.frz o u)) Y (Z.set i (.bor d')):=by
 have hlt:i<Z.length:=(Ac0.mp hi).1;have wa:Ow Y Z a:=⟨i,d,hi,ha⟩;obtain⟨nm,h0,o1,ho,n1,n2⟩:=R.owOk wa;have sub:∀b,Ow Y (Z.set i (.bor d')) b->Ow Y Z b/\b≠a:=λb hI48=>by
  obtain⟨j,e,h1,h2⟩:=hI48;rcases zb0 h1 with⟨_,z⟩ | ⟨nj,z⟩
  ·cases z
  ·refine{⟨j,e,z,h2⟩,λq=>?_}
   subst q;exact nj (R.uniq j i b e d z hi h2 ha)
 have k:vd1 (Av c Y Z) (Av c Y (Z.set i (.bor d'))) H (upd H a (.frz o u)):=zh7 (λb v e t=>by
  have hb:b≠a:=λz=>by subst z;rw[hu] at e;cases e;exact ns t
  rw[za8 hb];exact e) λb v av e=>{{av.1,λw=>av.2.1 (sub b w).1,av.2.2},by rw[za8 (λ(z:b=a)=>av.2.1 (z▸wa))];exact e}
 refine{{by rw[Bx0];exact R.len,λb v e n=>?_,λj s hs=>?_,λb hb=>?_,λj j' b e e' h1 h2 h3 h4=>?_},{λb v e n w=>?_,λb v e n w=>(sub b w).1}}
 ·have hb:b≠a:=λz=>by subst z;rw[show c.H0 b=none from h0] at e;cases e
  rw[za8 hb];exact R.frame b v e n
 ·rcases zb0 hs with⟨m,z⟩ | ⟨nj,z⟩
  ·subst z m
   exact{.ref a,by rw[ha];rfl,h _}
  ·have q:=R.slot j s z
   cases s with
   | no=>trivial
   | bor e=>obtain⟨v',e1,i1⟩:=q;exact{v',e1,i1.mono k}
   | own e=>
     obtain⟨b,e1,n,f,t⟩:=q;have hb:b≠a:=λz'=>by
      subst z';exact nj (R.uniq j i b e d z hi (ze1 e1) ha)
     exact{b,e1,n,f,t.mono k λv z=>by rw[za8 hb];exact z}
   | hnd=>exact q
 ·obtain⟨n,z,v,h',q⟩:=R.avl b hb
  have hba:b≠a:=λz'=>by
   subst z';obtain⟨b',e1,n',_⟩:=R.slot i _ hi;rw[ha] at e1;have e1:some (V.ref b)=some (V.ref b'):=e1;cases e1;exact n'.2 hb
  exact{n,z,v,by rw[za8 hba];exact h',q}
 ·rcases zb0 h1 with⟨_,z⟩ | ⟨_,z⟩
  ·cases z
  ·rcases zb0 h2 with⟨_,z'⟩ | ⟨_,z'⟩
   ·cases z'
   ·exact R.uniq j j' b e e' z z' h3 h4
 ·rw[za8 (λ(z:b=a)=>w (z▸wa))];exact e
instance fzS(Z:Rho)(i:Nat):Option Rho:=match Z[i]? with
 | some (.own d)=>(oFz d).map λd'=>Z.set i (.bor d')
 | _=>none
instance sFz(S:Type)(i:Nat)(F:FnS S):FnS S:=λZ st=>(vd2 (fzS Z i) st).bind F
open H in
theorem vw1(i:Nat)(h:DS X c s F):DS X c s (sFz S i F):=λA3 s Y H D I hI49=>by
 obtain⟨Z,st,R,ok,w⟩:=hI49;obtain⟨Z',e,w⟩:=za9.mp (za2.mp w);unfold fzS at e;cases hs:Z[i]? with
 | none=>rw[hs] at e;cases e
 | some sl=>
   rw[hs] at e;cases sl with
   | own d=>
     have e:(oFz d).map (λd'=>Z.set i (.bor d'))=some Z':=e;cases ed:oFz d with
     | none=>rw[ed] at e;cases e
     | some d'=>
       rw[ed] at e;cases e;obtain⟨a,e1,n,f0,t⟩:=R.slot i _ hs;have go:∀(u:HO),H a=some u->((∃l,u=.lst l)\/∃l,u=.dT l)->(∀(o:Obj) A',Is c.K A' (upd H a (.frz o u)) d' (.ref a))->wpAny 'e' X.A (exec _ X.env) (SP X A3 D) X.xe s:=λu hu k is=>by
        have ns:¬vo7 u:=λz=>by rcases k with⟨l,rfl⟩ | ⟨l,rfl⟩<;>rcases z with⟨_,e⟩ | ⟨_,_,e⟩<;>cases e
        have mo:Mut (some u)/\∃o,s.heap.get? a=some o:=by
         have z:=I.hok a u hu;rcases k with⟨l,rfl⟩ | ⟨l,rfl⟩
         ·obtain⟨_,its,n,_,e⟩:=z;exact{trivial,_,e}
         ·obtain⟨_,_,_,_,o,_,_,e,_⟩:=z;exact{trivial,_,e}
        obtain⟨o,I2⟩:=I.froze hu mo.1 mo.2;obtain⟨R1,F1⟩:=R.fz (o:=o) hs (ze1 e1) hu ns (is o);exact h A3 s Y _ D I2 {_,st,R1,yd8 ok n.1 hu ns,za6 w (λfl st' q=>q.from F1) λ_ _ q=>q}
       unfold oFz at ed;split at ed
       ·rename_i l
        split at ed
        ·rename_i im
         cases ed;obtain⟨vs,hv,il⟩:=t;have ns:¬vo7 (.lst vs):=λz=>by rcases z with⟨_,e⟩ | ⟨_,_,e⟩<;>cases e
         exact go _ hv (.inl {_,rfl}) λo A'=>Is.fl_iff.mpr {a,o,vs,rfl,zb3,(IsL.ofImm im il).mono (xv4 hv ns)}
        ·cases ed
       ·rename_i ks l
        split at ed
        ·rename_i im
         cases ed;obtain⟨vs,il,hk⟩:=t;rcases hk with⟨k1,e1,_,_⟩ | ⟨kk,e2,el,hv⟩
         ·cases k1 with
          | nil=>cases e1
          | cons z r=>
            have:L2.D.non=vi9 z:=(List.cons.inj e1).1;cases z<;>cases this
         ·have ns:¬vo7 (.dT (kk.zip vs)):=λz=>by rcases z with⟨_,e⟩ | ⟨_,_,e⟩<;>cases e
          exact go _ hv (.inr {_,rfl}) λo A'=>Is.fd_iff.mpr {a,o,vs,kk,rfl,(List.cons.inj e2).2,el,zb3,(IsL.ofImm im il).mono (xv4 hv ns)}
        ·cases ed
       ·cases ed
   | _=>cases e
def xb5{F:FnS S}{Z:Rho}{st:S}{Q:Fl->S->Prop}{E:Exn->S->Prop}:wpR (sFz S i F Z st) Q E↔∃Z',fzS Z i=some Z'/\wpR (F Z' st) Q E:=by
 unfold sFz;rw[za2,za9]
end
instance WdD(K:PySem.W.Frag)(a:Addr):Wd D where
 ok:=λd H=>d.flat=true/\Top K (λ_=>False) H d a
 mv:=λb=>b=a
 h:=.ref a
 stay:=λd H H' ⟨m,t⟩ k s=>{m,Top.mono (c:=cx0 K H) {s,λ_ _ f=>f.elim} (λo e=>k a o rfl e) t}
 live:=λd H b ⟨_,t⟩ e=>by subst e;exact Top.there (c:=cx0 K H) t
def wh1{K:PySem.W.Frag}{A:Addr->Prop}{H:Hp}{ks vs:List D}{a:Addr}(t:Top K A H (.dct (.non::ks) vs) a):∃(kk:List (List vc6)) (us:List V),ks=kk.map vc4/\kk.length=us.length/\H a=some (.dT (kk.zip us))/\IsL K A H vs us:=by
 obtain⟨us,i,hq⟩:=t;rcases hq with⟨k1,x1,_,_⟩ | ⟨k2,x2,el,eH⟩
 ·cases k1 with
  | nil=>cases x1
  | cons y r=>
    have:D.non=vi9 y:=(List.cons.inj x1).1;cases y<;>cases this
 ·exact{k2,us,(List.cons.inj x2).2,el,eH,i}
section
variable{X:Cx}{K:PySem.W.Frag}{a0:Addr}{c:Dx (WdD K a0)}{g ga gb:Gr}{i:Nat}{k value:Expr}{fk fv:Fn D}{pos:Pos}
def xx0(R:Rep c H Y Z)(h:Z[i]?=some .hnd):Y[i]?=some (some (.ref a0)):=ze1 (show (Y[i]?).join=some (V.ref a0) from R.slot i _ h)
instance hnd?(Z:Rho)(i:Nat):Bool:=match Z[i]? with
 | some .hnd=>true
 | _=>false
def yb9(h:hnd? Z i=true):Z[i]?=some .hnd:=by
 unfold hnd? at h;split at h
 ·assumption
 ·cases h
open H in
def xs5{neg:Bool}{dk st d:D}(h:vl1 neg dk st=some d):∃ks vs kk,st=.dct (.non::ks) vs/\zc0 dk=some kk/\d=.bl (if neg then !(vc1 kk ks vs).isSome else (vc1 kk ks vs).isSome):=by
 unfold vl1 at h;split at h
 ·rename_i ks vs
  cases hk:zc0 dk with
  | none=>rw[hk] at h;cases h
  | some kk=>rw[hk] at h;cases h;exact⟨ks,vs,kk,rfl,rfl,rfl⟩
 ·cases h
instance vx1(neg:Bool)(i:Nat)(fk:Fn D):Fn D:=λZ st=>if hnd? Z i=true then (fk Z st).bind λdk st1=>vd2 (vl1 neg dk st1) st1 else .bad
open H in
def ug3(hK:c.K=K){Y:St}{H:Hp}{Q:VK}{neg:Bool}(h:tD c g (vx1 neg i fk) Y H Q):tD c .R fk Y H λy H1=>vj0 i Y H1 λx H2=>∃a o,x=.ref a/\vi2 H2 a y o/\Q (.bl (if neg then !o.isSome else o.isSome)) H2:=by
 obtain⟨Z,st,R,ok,w⟩:=h;unfold vx1 at w;split at w
 ·rename_i hh
  refine{Z,st,R,ok,za6 (za2.mp w) (λdk st1 q v H1 e1 ok1 z=>?_) λx st1 q=>q};obtain⟨d,ed,q⟩:=za9.mp q;refine{.ref a0,xx0 R (yb9 hh),?_};obtain⟨ks,vs,kk,es,hk,rfl⟩:=xs5 ed;subst es;have z1:Is K (λ_=>True) H1 dk v:=Is.mono {λ_ _ z _=>z,λb o _ z=>⟨trivial,z⟩} (hK▸(show Is c.K (λb=>¬b=a0) H1 dk v from z));have z2:Is K (λ_=>True) H1 (.dct (.non::ks) vs) (.ref a0):=Top.isTop (c:=cx0 K H1) trivial (Top.mono (c:=cx0 K H1) (A:=λ_=>False) {λ_ _ z _=>z,λ_ _ f=>False.elim f} (λ_ z=>z) ok1.2);obtain⟨a,o,ea,dg,ho⟩:=xg9 hk z1 z2;refine{a,o,ea,dg,?_};have eo:o.isSome=(vc1 kk ks vs).isSome:=by
   rcases ho with⟨h1,h2⟩ | ⟨_,_,h1,h2,_⟩<;>rw[h1,h2]<;>rfl
  rw[eo];exact q _ H1 e1 ok1 (Val.imm imm_bl (show Is c.K (λb=>¬(WdD K a0).mv b) H1 _ _ from Is.bl_iff.mpr rfl) g)
 ·exact w.elim
def xy1{y:Str}(hK:c.K=K)(hu:X.A.units+2<cLine)(hk:DE X c .R k fk)(hy:PE X (.Name y py) (vj0 i))(hm:autoParam (behindInMarks .NotIn (.Name y py)=false) uR):DT X c (.Compare k [.NotIn] [.Name y py] pos) (fB D (vx1 true i fk)):=
 (xq0 (ys2 hu hk hy) hm).imp λY H Q q=>ug3 (g:=.R) hK (show tB (tD c .R (vx1 true i fk)) Y H Q from yr2 q)
instance vr5(i:Nat):Fn D:=λZ st=>if hnd? Z i=true then vd2 (vj9 [st]) st else .bad
open H in
def wr8{x y:Str}{p py:Pos}(hg:Gl X x)(hm:X.mg x=none)(hv:bootBuiltins x=some (.builtin "len"))(hy:PE X (.Name y py) (vj0 i))(hn:autoParam (x≠"__name__") uD)(hdb:autoParam ((x == ("__debug__" : Str))=false) uD)(he:autoParam (starEach [.Name y py] X.env=(false,eval (.Name y py) X.env)::starEach [] X.env) uR)(hpl:autoParam ((backTo pos (starEach [] X.env)).any (·.1)=false) uR):DE X c g (.Call (.Name x p) [.Name y py] [] pos) (vr5 i):=
 (zw1 yg8 hg hm hv (zf6 hy zn8 he) hn hdb he hpl).imp λY H Q hI50=>by
  obtain⟨Z,st,R,ok,w⟩:=hI50;unfold vr5 at w;split at w
  ·rename_i hh
   obtain⟨d,ed,q⟩:=za9.mp w;refine{.ref a0,xx0 R (yb9 hh),?_};unfold vj9 at ed;split at ed
   ·rename_i ks ws heq
    cases heq;split at ed
    ·rename_i hl
     cases ed;obtain⟨kk,us,ek,el,eH,_⟩:=wh1 ok.2;have ln:(kk.zip us).length=ks.length:=by rw[List.length_zip,<-el,Nat.min_self,ek,Aa0]
     refine{a0,_,rfl,eH,by rw[ln];exact hl,?_};rw[ln];exact q _ H Ext.refl ok (Val.imm imm_int (show Is c.K (λb=>¬(WdD K a0).mv b) H _ _ from Is.int_iff.mpr rfl) g)
    ·cases ed
   ·cases ed
  ·exact w.elim
instance vr9(st k v:D):Option D:=match st with
 | .dct (.non::ks) vs=>(zc0 k).bind λkk=>if v.imm=true/\ks.length<sizeLine then some (.dct (.non::(ve4 kk v ks vs).1) (ve4 kk v ks vs).2) else none
 | _=>none
open H in
def xp9{st k v d:D}(h:vr9 st k v=some d):∃ks vs kk,st=.dct (.non::ks) vs/\zc0 k=some kk/\v.imm=true/\ks.length<sizeLine/\d=.dct (.non::(ve4 kk v ks vs).1) (ve4 kk v ks vs).2:=by
 unfold vr9 at h;split at h
 ·rename_i ks vs
  cases hk:zc0 k with
  | none=>rw[hk] at h;cases h
  | some kk=>
    rw[hk] at h;have h:(if v.imm=true/\ks.length<sizeLine then some (D.dct (.non::(ve4 kk v ks vs).1) (ve4 kk v ks vs).2) else none)=some d:=h;split at h
    ·rename_i hc;cases h;exact⟨ks,vs,kk,rfl,rfl,hc.1,hc.2,rfl⟩
    ·cases h
 ·cases h
instance vt3(i:Nat)(fk fv:Fn D):FnS D:=λZ st=>(fv Z st).bind λv st1=>if hnd? Z i=true then (fk Z st1).bind λk st2=>(vd2 (vr9 st2 k v) st2).bind λd _=>.ok (.nx Z) d else .bad
open H in
def wr1{x:Str}{p1 p2:Pos}(hK:c.K=K)(hu:X.A.units+2<cLine)(hx:PE X (.Name x p1) (vj0 i))(hk:DE X c .R k fk)(hv:DE X c .R value fv)(hs:autoParam (swapsWith value (some (.Subscript (.Name x p1) k p2)) pos.line X.env=pure false) uR) :
 DS X c (.Assign [.Subscript (.Name x p1) k p2] value pos) (vt3 i fk fv):=
 (yy1 hu hx hk hv hs).imp λD Y H q=>by
  refine zf2 (zq3 (g:=.R) (k:=λv Z st1=>if hnd? Z i=true then (fk Z st1).bind λk st2=>(vd2 (vr9 st2 k v) st2).bind λd _=>.ok (.nx Z) d else .bad) q) λv H1 hI126=>?_
  obtain⟨Z,d,st0,st1,R,ok,R1,ok1,e1,z,w⟩:=hI126;split at w
  ·rename_i hh
   refine{.ref a0,xx0 R1 (yb9 hh),Z,st1,R1,ok1,za6 (za2.mp w) (λdk st2 q2 vk H2 e2 ok2 zk=>?_) λx st2 q2 H2 e2 ok2=>q2 H2 ((e1.trans e2).f0 R) ok2};obtain⟨d',ed,q2'⟩:=za9.mp (za2.mp q2);obtain⟨ks,vs,kk,es,hkk,im,hl,rfl⟩:=xp9 ed;subst es;obtain⟨bk,ebk,hbk,_⟩:=zr8 hkk (show Is c.K (λb=>¬b=a0) H2 dk vk from zk);obtain⟨k2,us,ek,el,eH,iu⟩:=wh1 ok2.2;subst ek;have zv:Is K (λ_=>False) H2 d v:=Is.ofImm im (hK▸(show Is c.K (λb=>¬(WdD K a0).mv b) H2 d v from z.ext e2 ok1));obtain⟨kk',us',g1,g2,g3,g4⟩:=xa2 (k:=kk) zv el iu;have hz:(k2.zip us).length<sizeLine:=by
    rw[List.length_zip,<-el,Nat.min_self];rw[Aa0] at hl;exact hl
   have dp:=vq3.t (v:=v) eH hbk hz;rw[g4] at dp;subst ebk;refine{a0,_,rfl,dp,?_};have ex:Ext (WdD K a0) H2 (upd H2 a0 (.dT (kk'.zip us'))):=λb o h n=>by rw[za8 n];exact h
   have ok3:(WdD K a0).ok (.dct (.non::(ve4 kk d (k2.map vc4) vs).1) (ve4 kk d (k2.map vc4) vs).2) (upd H2 a0 (.dT (kk'.zip us'))):=by
    have ks:∀b o,H2 b=some o->vo7 o->upd H2 a0 (.dT (kk'.zip us')) b=some o:=λb o h s=>by
     by_cases e:b=a0
     ·subst e;rw[eH] at h;cases h;rcases s with⟨u,e⟩ | ⟨ob,u,e⟩<;>cases e
     ·rw[za8 e];exact h
    refine{zx2 im ok2.1,us',g2.mono {ks,λ_ _ f=>False.elim f},.inr {kk',by rw[g1],g3,zb3}}
   exact q2' Y _ ((e1.trans (e2.trans ex)).frm) ok3 ((R1.ext ok1 e2).ext ok2 ex)
  ·exact(show False from w).elim
end
instance spL{S:Type}(W:Wd S)(K:PySem.W.Frag)(F:List D->S->Res S D):Sp:=λvs H Q _=>∃l us st,vs=us++[W.h]/\IsL K (λb=>¬W.mv b) H l us/\W.ok st H/\
 wpR (F l st) (λd st'=>∀v H',Ext W H H'->W.ok st' H'->Is K (λb=>¬W.mv b/\H b=none) H' d v->Q v H') λ_ _=>False
instance vo9(n:Nat)(l:List D):Rho:=l.map Sl.bor++Sl.hnd::List.replicate (n-1-l.length) .no
instance vw3{S:Type}(n p:Nat)(B:FnS S):List D->S->Res S D:=λl st=>if l.length+1=p/\p<=n then uh3 (B (vo9 n l) st) else .bad
def yr8{n:Nat}{i:Nat}(h:(vo9 n l)[i]?=some s):(∃d,s=.bor d/\l[i]?=some d)\/(s=.hnd/\i=l.length)\/s=.no:=by
 unfold vo9 at h;by_cases hi:i<l.length
 ·rw[Br0 (by rw[Aa0];exact hi),Af0] at h
  cases q:l[i]? with
  | none=>rw[q] at h;cases h
  | some d=>rw[q] at h;cases h;exact .inl ⟨d,rfl,rfl⟩
 ·rw[Cp0 (by rw[Aa0];omega),Aa0] at h
  cases e:i-l.length with
  | zero=>rw[e] at h;cases h;exact .inr (.inl {rfl,'o'})
  | succ m=>
    rw[e,List.getElem?_cons_succ,Cw0] at h;split at h
    ·cases h;exact .inr (.inr rfl)
    ·cases h
section
variable{P:Program}{w:World}{K:PySem.W.Frag}{mg:Str->Option Value}{base:Heap}
open H in
def Fun.dL{Sx:Type}{W:Wd Sx}{x qual:Str}{st:Stmt}{f:Addr}{fd:FuncData}{N ps:List Str}{k:Nat}{B:FnS Sx}(F:Fun K x qual st f fd)(S:zc2 N ps (za3 st))(hb:∀(cdv:Value) (A:Around) (outer:List Env) (s:Shared) (H:Hp) (E:XK),vd5 k (A.deeper (envOfC qual (za3 st) s.heap.objs.size f cdv))->
  DSs (vf7 CX0 P w K mg base N qual (za3 st) f cdv A outer s H E).nox (cxS W K H) (zb8 st) B):vk3 P w K mg base CX0 (k+1) f fd ps (spL W K (vw3 N.length ps.length B)):=by
 refine F.ok S (λvs H Q E h=>?_) λcdv A outer s H vs Q E hr h=>?_
 ·obtain⟨l,us,st0,rfl,i,ok,w⟩:=h
  unfold vw3 at w;split at w
  ·rename_i hl
   rw[Ak0,<-i.length];exact hl.1
  ·exact w.elim
 ·obtain⟨l,us,st0,rfl,i,ok,w⟩:=h
  unfold vw3 at w;split at w
  ·rename_i hl
   have il:=i.length;have no:∀b,¬Ow (ve9 N (us++[W.h])) (vo9 N.length l) b:=λb hI51=>by
    obtain⟨j,d,h1,_⟩:=hI51;rcases yr8 h1 with⟨_,z,_⟩ | ⟨z,_⟩ | z<;>cases z
   have R:Rep (cxS W K H) H (ve9 N (us++[W.h])) (vo9 N.length l):=by
    refine{?_,λb o e _=>e,λj s hs=>?_,λb z=>z.elim,λj j' a d e h1 _ h3 _=>(no a ⟨j,d,h1,h3⟩).elim}
    ·unfold ve9 vo9
     simp only[Ak0,Ax0,Aa0,Ea0,Cn0];omega
    ·rcases yr8 hs with⟨d,rfl,hd⟩ | ⟨rfl,rfl⟩ | rfl
     ·obtain⟨v,hv,iv⟩:=i.get hd
      exact{v,by rw[zq4 (v:=v) (by rw[Br0 (Ac0.mp hv).1];exact hv)];rfl,iv.mono {λ_ _ z _=>z,λb o a z=>{{a,no b,λm=>m},z}}}
     ·show ((ve9 N (us++[W.h]))[l.length]?).join=some W.h
      rw[zq4 (v:=W.h) (by rw[il,Cp0 (Ae0 _)];simp)];rfl
     ·trivial
   refine{_,hb cdv A outer s H E hr,vo9 N.length l,st0,R,ok,?_};cases q:B (vo9 N.length l) st0 with
   | bad=>rw[q] at w;exact w.elim
   | exc x u=>rw[q] at w;exact w.elim
   | ok fl u=>
     rw[q] at w;cases fl with
     | rt d=>exact λv H' f0 ok' z=>w v H' f0 ok' z
     | nx Z=>exact λY' H' fr ok' R'=>w .non H' (λb o e n=>R'.frame b o e n) ok' (Is.non_iff.mpr rfl)
     | bk Z=>exact w.elim
     | ct Z=>exact w.elim
  ·exact w.elim
end
section
variable{X:Cx}{S:Type}{W:Wd S}{c:Dx W}{i j k:Nat}{f x y:Str}{ps:List Str}{e1 e2:Expr}{f1 f2':Fn S}{G:List D->D->Res D D}{pf py p pos pos':Pos}
instance vt8(Z:Rho)(j:Nat):Option D:=match Z[j]? with
 | some (.own d)=>if d.flat=true then some d else none
 | _=>none
def xr5(h:vt8 Z j=some d):Z[j]?=some (.own d)/\d.flat=true:=by
 unfold vt8 at h;split at h
 ·split at h
  ·cases h;exact{by assumption,by assumption}
  ·cases h
 ·cases h
instance vq5(S:Type)(i j:Nat)(G:List D->D->Res D D)(fa:FnA S):FnS S:=λZ st=>match vt8 Z j with
 | some d=>(fa Z st).bind λl st1=>if D.immL l=true/\i≠j then (match G l d with
  | .ok r d'=>(vd2 (putN (Z.set j (.own d')) i r) st1).bind λZ' st2=>.ok (.nx Z') st2
  | _=>.bad) else .bad
 | none=>.bad
def wd5(C:∀a,zb9 X.prog X.w X.K X.mg X.base k f ps (spL (WdD X.K a) X.K G))(hr:vd5 k X.A)(hg:Gl X f)(h1:PE X e1 t1)(h2:PE X e2 t2)(hy:PE X (.Name y py) (vj0 j))(hdb:autoParam ((f == ("__debug__" : Str))=false) uD)(s1:autoParam (starEach [e1,e2,.Name y py] X.env=(false,eval e1 X.env)::starEach [e2,.Name y py] X.env) uR)(s2:autoParam (starEach [e2,.Name y py] X.env=(false,eval e2 X.env)::starEach [.Name y py] X.env) uR)(s3:autoParam (starEach [.Name y py] X.env=(false,eval (.Name y py) X.env)::starEach [] X.env) uR)(hpl:autoParam ((backTo pos (starEach [e2,.Name y py] X.env)).any (·.1)=false) uR):PE X (.Call (.Name f pf) [e1,e2,.Name y py] [] pos) (λY H Q=>∃a,vq4 (spL (WdD X.K a) X.K G) [] E0 (vl5 t1 (vl5 t2 (vl5 (vj0 j) ud2))) Y H Q):=
 λA3 s Y H Q I hI52=>by
  obtain⟨a,q⟩:=hI52;obtain⟨fa,fd,hm,hk,hb,F⟩:=(C a).ex;exact ym5 (E:=E0) F hr hg hm hk hb .nil vq8 (zf6 h1 (zf6 h2 (zf6 hy zn8 s3) s2) s1) hdb s1 hpl A3 s Y H Q I q
open H in
def wq9(hK:c.K=X.K)(C:∀a,zb9 X.prog X.w X.K X.mg X.base k f ps (spL (WdD X.K a) X.K G))(hr:vd5 k X.A)(hg:Gl X f)(hN:X.N.Nodup)(hi:X.N[i]?=some x)(hx:Loc X.env.scope x)(h1:DE X c .R e1 f1)(h2:DE X c .R e2 f2')(hy:PE X (.Name y py) (vj0 j))(hdb:autoParam ((f == ("__debug__" : Str))=false) uD)(s1:autoParam (starEach [e1,e2,.Name y py] X.env=(false,eval e1 X.env)::starEach [e2,.Name y py] X.env) uR)(s2:autoParam (starEach [e2,.Name y py] X.env=(false,eval e2 X.env)::starEach [.Name y py] X.env) uR)(s3:autoParam (starEach [.Name y py] X.env=(false,eval (.Name y py) X.env)::starEach [] X.env) uR)(hpl:autoParam ((backTo pos (starEach [e2,.Name y py] X.env)).any (·.1)=false) uR)(hs:autoParam (swapsWith (.Call (.Name f pf) [e1,e2,.Name y py] [] pos) (some (.Name x p)) pos'.line X.env=pure false) uR)(hf:X.fn x=true\/X.env.scope.names.lookup x=some .local:=by first | exact .inl rfl | exact .inr rfl | assumption) :
 DS X c (.Assign [.Name x p] (.Call (.Name f pf) [e1,e2,.Name y py] [] pos) pos') (vq5 S i j G (vf8 S f1 (vf8 S f2' (vx2 S)))):=
 (zr2 hN hi hx (wd5 C hr hg h1 h2 hy hdb s1 s2 s3 hpl) hs hf).imp λEn Y H hI53=>by
  obtain⟨Z,st,R,ok,w⟩:=hI53;unfold vq5 at w;cases hj:vt8 Z j with
  | none=>rw[hj] at w;exact w.elim
  | some d=>
    rw[hj] at w;obtain⟨ho,fl⟩:=xr5 hj;obtain⟨a,ea,nn,f0,tp⟩:=R.slot j _ ho;have ea':=ze1 ea;refine{a,Z,st,R,ok,za6 (za2.mp (za2.mp w)) (λd1 st1 q1 v1 H1 x1 ok1 z1=>?_) λx st1 q H1 x1 ok1=>q H1 (x1.f0 R) ok1};refine{Z,st1,R.ext ok x1,ok1,za6 (za2.mp (za2.mp q1)) (λd2 st2 q2 v2 H2 x2 ok2 z2=>?_) λx st2 q H2 x2 ok2=>q H2 ((x1.trans x2).f0 R) ok2};refine{.ref a,ea',?_};have q2:wpR (if D.immL [d1,d2]=true/\i≠j then (match G [d1,d2] d with
     | .ok r d'=>(vd2 (putN (Z.set j (.own d')) i r) st2).bind λZ' st2=>.ok (.nx Z') st2
     | _=>.bad) else .bad) (vh1 c En Y Z H) (vo8 c):=q2
    split at q2
    ·rename_i hc
     obtain⟨im,hij⟩:=hc;have im1:d1.imm=true/\d2.imm=true:=by simpa [D.immL] using im
     have x12:=x1.trans x2;have R2:=R.ext ok x12;obtain⟨_,_,_,_,tp2⟩:=R2.slot j _ ho;obtain⟨a',eb,nn2,f02,tp2⟩:=R2.slot j _ ho;have:a'=a:=by
      have:=(ze1 eb).symm.trans ea';cases this;rfl
     subst this;obtain⟨u,hu,nt,nf⟩:=Top.there (c:=c) tp2;have ns:¬vo7 u:=λs=>by
      rcases s with⟨t,e⟩ | ⟨ob,t,e⟩
      ·exact nt t e
      ·exact nf ob t e
     have okd:(WdD X.K a').ok d H2:={fl,by
      have tp3:Top X.K (Av c Y Z) H2 d a':=hK▸tp2;cases d with
      | lst l=>obtain⟨vs,e,i⟩:=tp3;exact{vs,e,IsL.ofImm fl i}
      | dct ks l=>obtain⟨vs,i,q⟩:=tp3;exact{vs,IsL.ofImm fl i,q}
      | _=>exact tp3}
     refine{[d1,d2],[v1,v2],d,rfl,IsL.cons.mpr {_,_,rfl,Is.ofImm im1.1 (hK▸(show Is c.K (λb=>¬W.mv b) H2 d1 v1 from z1.ext x2 ok1)),IsL.one (Is.ofImm im1.2 (hK▸(show Is c.K (λb=>¬W.mv b) H2 d2 v2 from z2)))},okd,?_};cases hG:G [d1,d2] d with
     | bad=>rw[hG] at q2;exact q2.elim
     | exc x s=>rw[hG] at q2;exact q2.elim
     | ok r d'=>
       rw[hG] at q2;obtain⟨Z',ep,q2⟩:=za9.mp (za2.mp q2);intro v H' x' ok' z';have z':Is X.K (λb=>¬b=a'/\H2 b=none) H' r v:=z';obtain⟨o',ho',nt',nf'⟩:=Top.there (c:=cx0 X.K H') ok'.2;have ns':¬vo7 o':=λs=>by
        rcases s with⟨t,e⟩ | ⟨ob,t,e⟩
        ·exact nt' t e
        ·exact nf' ob t e
       -- the heap with what is new,the dict as it was
       obtain⟨Hm,hm1,hm2⟩:∃Hm:Hp,Hm a'=H2 a'/\∀b,b≠a'->Hm b=H' b:={λb=>if b=a' then H2 a' else H' b,if_pos rfl,λb hb=>if_neg hb};have eH:upd Hm a' o'=H':=by
        funext b;by_cases hb:b=a'
        ·subst hb;rw[zb3,ho']
        ·rw[za8 hb,hm2 b hb]
       have kp:∀b o,H2 b=some o->Hm b=some o:=λb o h=>by
        by_cases hb:b=a'
        ·subst hb;rw[hm1];exact h
        ·rw[hm2 b hb];exact x' b o h hb
       have xm:Ext W H2 Hm:=λb o h _=>kp b o h
       have okm:W.ok st2 Hm:=W.stay st2 H2 Hm ok2 (λb o _ h=>kp b o h) λb o h _=>kp b o h
       have zm:Is c.K (Av c Y Z) Hm r v:=by
        rw[hK];refine z'.mono {λb o h s=>?g1,λb o nb h=>{{zl4 ok2 nb.2,λow=>?g2,λav=>?g3},?g4}};case g1=>
         by_cases hb:b=a'
         ·subst hb;rw[ho'] at h;cases h;exact(ns' s).elim
         ·rw[hm2 b hb];exact h
        case g2=>
         obtain⟨_,_,o2,h2,_⟩:=R2.owOk ow;rw[nb.2] at h2;cases h2
        case g3=>
         obtain⟨_,_,o2,h2,_⟩:=R2.avl b av;rw[nb.2] at h2;cases h2
        case g4=>rw[hm2 b nb.1];exact h
       unfold putN at ep;split at ep
       ·rename_i hil
        have hil':i<Z.length:=by rw[Bx0] at hil;exact hil
        have fin:∀(s:Sl),Rep c Hm (Y.set i (some v)) (Z.set i s)->Frm c H2 Y Z Hm (Y.set i (some v)) (Z.set i s)->Z'=(Z.set j (.own d')).set i s->En.nx (Y.set i (some v)) H':=λs R3 F3 er=>by
         have hj2:(Z.set i s)[j]?=some (.own d):=by rw[Ba0 hij];exact ho
         have sj2:(Y.set i (some v))[j]?=some (some (.ref a')):=by rw[Ba0 hij];exact ea'
         obtain⟨R4,F4⟩:=R3.wr (d':=d') (o:=o') hj2 sj2 ⟨nt',nf'⟩ λk=>by
          rw[eH,hK];exact Top.mono (c:=cx0 X.K H') (A:=λ_=>False) {λ_ _ z _=>z,λ_ _ f=>False.elim f} (λ_ z=>z) ok'.2
         have es:(Z.set i s).set j (.own d')=Z':=by rw[er,List.set_comm _ _ hij]
         rw[eH,es] at R4 F4;exact q2 _ H' ((x12.frm.trans F3).trans F4) (eH▸yd8 okm nn.1 (hm1.trans hu) ns) R4
        by_cases m:r.flat=true
        ·rw[if_pos m] at ep
         cases ep;obtain⟨b,rfl,mu,av,_⟩:=yo0 z' m;obtain⟨R3,F3⟩:=R2.setO (i:=i) ok2 xm okm hil' zm m av.2;exact fin _ R3 F3 rfl
        ·rw[if_neg m] at ep
         cases ep;exact fin _ ((R2.ext ok2 xm).setB hil' zm) (xm.frm.trans ze8) rfl
       ·cases ep
    ·exact q2.elim
section
variable{Q:Fl->S->Prop}{E:Exn->S->Prop}{Z:Rho}{st:S}{fa:FnA S}
theorem wb2:wpR (vq5 S i j G fa Z st) Q E↔∃d,vt8 Z j=some d/\wpR (fa Z st) (λl st1=>D.immL l=true/\i≠j/\wpR (G l d) (λr d'=>∃Z',putN (Z.set j (.own d')) i r=some Z'/\Q (.nx Z') st1) λ_ _=>False) E:=by
 unfold vq5;cases h:vt8 Z j with
 | none=>exact{λq=>q.elim,λ⟨d,e,_⟩=>by cases e}
 | some d=>
   refine Iff.trans (wpB (P:=λl st1=>D.immL l=true/\i≠j/\wpR (G l d) (λr d'=>∃Z',putN (Z.set j (.own d')) i r=some Z'/\Q (.nx Z') st1) λ_ _=>False) λl st1=>?_) {λq=>⟨d,rfl,q⟩,λ⟨d',e,q⟩=>by cases e;exact q};by_cases hc:D.immL l=true/\i≠j
   ·rw[if_pos hc]
    cases G l d with
    | bad=>exact{λq=>q.elim,λq=>q.2.2.elim}
    | exc x s=>exact{λq=>q.elim,λq=>q.2.2.elim}
    | ok r d'=>
      dsimp only;rw[za2,za9];exact{λq=>⟨hc.1,hc.2,q⟩,λq=>q.2.2}
   ·rw[if_neg hc];exact{λq=>q.elim,λq=>hc ⟨q.1,q.2.1⟩}
end
end
end L2
namespace Ts
open PySem PyProof PyProof.Rows
structure Srt(prog:Program)(w:World)(O:KeyOrd) where
 at_:Heap->Value->O.α->Prop
 ok:O.α->Prop
 dflt:O.α
 fn:∀{h v a b},at_ h v a->at_ h v b->a=b
 keep:∀{h h':Heap} {v a},at_ h v a->(∀b o,o.cls≠.type "list"->h.get? b=some o->h'.get? b=some o)->at_ h' v a
 knd:SortKind
 room:Around->Prop
 kind:∀{A:Around} {E:Value->Shared->Prop} {s:Shared} {vs:List Value} {Q:SortKind->Shared->Prop},(∀v∈vs,∃a,ok a/\at_ s.heap v a)->2<=vs.length->Q knd s->wpAny 'r' A (keyKind' vs.toArray) Q E s
 cmp:∀{A:Around} {E:Value->Shared->Prop} {s:Shared} {st:SortSt} {x y:Keyed} {a b:O.α} {Q:Option Bool->SortSt->Prop},room A->kindOf st=knd->at_ s.heap x.1 a->at_ s.heap y.1 b->Q (some (O.blt a b)) st->wpS 'r' A E s (lt' x y) Q st
section
variable(S:Srt prog w O)
open Classical in
instance Srt.key(h:Heap)(v:Value):Option O.α:=if z:∃a,S.at_ h v a then some z.choose else none
def Srt.key_of(z:S.at_ h v a):S.key h v=some a:=by
 have y:∃a,S.at_ h v a:=⟨a,z⟩;unfold Srt.key;rw[dif_pos y,S.fn y.choose_spec z]
open H in
def Srt.at_of(z:S.key h v=some a):S.at_ h v a:=by
 unfold Srt.key at z;split at z
 ·rename_i y
  cases z;exact y.choose_spec
 ·cases z
noncomputable abbrev Srt.kk(h:Heap):KeyKind:={O,S.key h,S.dflt}
def Srt.cmpK(hR:S.room A):Cmp prog w A E s (S.kk s.heap) S.knd:=λst x y a b Q hk hx hy h=>S.cmp hR hk (S.at_of hx) (S.at_of hy) h
variable{S}
def wa3{h:Heap}{a:Addr}{n:Nat}{vs us:List Value}(o1:h.get? a=some (seqObj "list" vs.toArray n)){v:Value}{p:O.α}(z:S.at_ h v p):S.at_ (Up1 h a us) v p:=S.keep z λb o nl g=>wt8 g λe=>by
 subst e;rw[o1] at g;cases g;exact nl rfl
def xc4(hR:S.room A){n:Nat}(o1:s.heap.get? a=some (seqObj "list" vs.toArray n))(hv:∀v∈vs,∃p,(2<=vs.length->S.ok p)/\S.at_ s.heap v p)(h128:vs.length<128)(h:∀out:Array Value,out.toList.Perm vs->out.toList.Pairwise (λx y=>∀p q,S.at_ s.heap x p->S.at_ s.heap y q->O.kle p q)->P (.done (.ret .none)) { s with heap:=sortedHeap s.heap a vs out }) :
 wpAny 'r' A (Builtin.«list.sort» {[.ref a],[]}) P E s:=by
 rw[list_sort_plain];have la:a<s.heap.objs.size:=Heap.lt_size o1;refine Aa1 (listItems_at o1 rfl ?_);refine Aa1 (listUpdate_at o1 rfl ?_);obtain⟨e1,o2⟩:∃e1,(s.heap.update a (Obj.mapSeq λ_=>#[])).get? a=some (seqObj "list" #[] e1):={_,get?_update_seq o1 (λ_=>#[])};refine Aa1 (seqEpoch_at o2 rfl ?_);refine Aa1 (wpAny_newTuple (Aa1 (wpAny_newList (wpAny_holding ?_))));have o3:(Up1 s.heap a vs).get? a=some (seqObj "list" #[] e1):=by
  unfold Up1;rw[Cz0 _ _ _ (by rw[size_push',Heap.size_update];exact As0 (Nat.lt_succ_of_lt la)),Cz0 _ _ _ (by rw[Heap.size_update];exact As0 la)];exact o2
 show wpAny 'r' A _ P E { s with heap:=Up1 s.heap a vs };dsimp only;have sz:vs.toArray.size=vs.length:=by simp
 have fin:∀st':SortSt,(arrOf st').Perm (pairsOf vs)->Up (S.kk (Up1 s.heap a vs)) (arrOf st') 0 (pairsOf vs).size->P (.done (.ret .none)) { s with heap:=sortedHeap s.heap a vs ((arrOf st').map (·.2)) }:=by
  intro st' hp hs;have hl:(arrOf st').toList.Perm (vs.zip vs):=by rw[<-pairsOf_toList];exact Array.perm_iff_toList_perm.mp hp
  have hm:∀p,p∈(arrOf st').toList->p.1=p.2/\p.1∈vs:=λp hp'=>mem_zip_self (hl.mem_iff.mp hp')
  refine h _ ?_ ?_
  ·rw[Array.toList_map]
   have:=hl.map (·.2);rwa [List.map_snd_zip (Ae0 _)] at this
  ·rw[Array.toList_map,List.pairwise_map,Cg0]
   intro i j hi hj hij;have hi':i<(arrOf st').size:=by simpa using hi
   have hj':j<(arrOf st').size:=by simpa using hj
   have h1:=hs i j (An0 _) (Cq0 hij) (by rw[<-hp.size_eq];exact hj');rw[vd7 hi',vd7 hj'] at h1;intro p q zp zq;have k:∀t (ht:t<(arrOf st').size) (p:O.α),S.at_ s.heap (arrOf st')[t].2 p->ky (S.kk (Up1 s.heap a vs)) (arrOf st')[t]=p:=λt ht p z=>by
    have m:=hm _ (Array.getElem_mem_toList ht);show (S.key (Up1 s.heap a vs) (arrOf st')[t].1).getD S.dflt=_;rw[m.1,S.key_of (wa3 o1 z)];rfl
   rw[k i hi' p (by simpa using zp),k j hj' q (by simpa using zq)] at h1;exact h1
 by_cases h2:vs.toArray.size<2
 ·rw[if_pos h2,if_pos h2]
  refine Aa1 (Ac1 ?_);rw[StateT.run_pure];refine Aa1 (Ac1 ?_);dsimp only;refine Aa1 (seqEpoch_at o3 rfl ?_);refine Aa1 (listUpdate_at o3 rfl ?_ (hsz2:=Ap0 (Cr0 ((Array.size_map ..).trans (pairsOf_size _))) (by rw[sizeLine_eq];omega)));simp only[bne_self_eq_false,Bf0,if_false];exact Ac1 (fin (SortSt.mk' general' (vs.toArray.zip vs.toArray) #[] 7 none) (Array.Perm.refl _) (Up.one (by rw[pairsOf_size];omega)))
 ·rw[if_neg h2,if_neg h2]
  refine Aa1 (S.kind (s:={ s with heap:=Up1 s.heap a vs }) (λv m=>(hv v m).imp λp z=>{z.1 (by simpa using Nat.le_of_not_lt h2),wa3 o1 z.2}) (by simpa using Nat.le_of_not_lt h2) ?_);refine Aa1 (Ah1 (wk7 (s:={ s with heap:=Up1 s.heap a vs }) (a₀:=pairsOf vs) (st:=SortSt.mk' S.knd (vs.toArray.zip vs.toArray) #[] 7 none) (Q:=λ_ st'=>(arrOf st').Perm (pairsOf vs)/\failedOf st'=none/\Up (S.kk (Up1 s.heap a vs)) (arrOf st') 0 (pairsOf vs).size) (S.cmpK hR) (λp hp=>?_) {Array.Perm.refl _,rfl,rfl,rfl} (by rw[pairsOf_size];omega) (by rw[pairsOf_size];exact h128) λst' a1 a2 a3=>⟨a1,a2,a3⟩) ?_ λ_ _ e=>e)
  ·rw[pairsOf_toList] at hp
   obtain⟨q,z⟩:=hv _ (mem_zip_self hp).2;exact{q,S.key_of (wa3 o1 z.2)}
  ·rintro ⟨⟨⟩,st'⟩ s' ⟨rfl,hp,hf,hs⟩
   dsimp only;refine Aa1 (seqEpoch_at o3 rfl ?_);refine Aa1 (listUpdate_at o3 rfl ?_ (hsz2:=Ap0 (Cr0 ((Array.size_map ..).trans (hp.size_eq.trans (pairsOf_size _)))) (by rw[sizeLine_eq];omega)));rw[hf];simp only[bne_self_eq_false,Bf0,if_false];exact Ac1 (fin st' hp hs)
def xj8(hR:∀A':Around,A'.units<=A.units+4->S.room A')(hl:s.heap.IsList l vs.toArray)(hv:∀v∈vs,∃p,(2<=vs.length->S.ok p)/\S.at_ s.heap v p)(h128:vs.length<128)(h:∀out:Array Value,out.toList.Perm vs->out.toList.Pairwise (λx y=>∀p q,S.at_ s.heap x p->S.at_ s.heap y q->O.kle p q)->Q (.ref (s.heap.objs.size+1)) { s with heap:=sortedAll s.heap vs out }) :
 wpAny 'r' A (call (.builtin "sorted") [.ref l]) Q E s:=by
 refine Calls.call_function_entry kind_sorted plain_sorted entry_sorted (args_sorted1 _) ?_;unfold Builtin.«sorted»;refine Aa1 (m:=checkCount "sorted" 1 1 _) (Ac1 (Aa1 (collect_list hl ?_ (by rw[sizeLine_eq];omega))));refine Aa1 (wpAny_newList ?_);have sz:((s.heap.push (seqObj "list" #[] 0)).update s.heap.objs.size (Obj.mapSeq (·++vs.toArray))).objs.size=s.heap.objs.size+1:=by
  rw[Heap.size_update,size_push']
 have o1:(((s.heap.push (seqObj "list" #[] 0)).update s.heap.objs.size (Obj.mapSeq (·++vs.toArray))).push (seqObj "list" vs.toArray 0)).get? (s.heap.objs.size+1)=some (seqObj "list" vs.toArray 0):=by
  rw[<-sz];exact Ag0 _ rfl
 show wpAny _ _ _ _ _ { s with heap:=((s.heap.push (seqObj "list" #[] 0)).update s.heap.objs.size (Obj.mapSeq (·++vs.toArray))).push (seqObj "list" vs.toArray 0) };rw[sz];generalize hH:((s.heap.push (seqObj "list" #[] 0)).update s.heap.objs.size (Obj.mapSeq (·++vs.toArray))).push (seqObj "list" vs.toArray 0)=H1 at o1 ⊢;have old:∀b o,s.heap.get? b=some o->H1.get? b=some o:=λb o g=>by
  have hb:=Heap.lt_size g;rw[<-hH,Cz0 _ _ _ (by rw[sz];exact As0 (Nat.lt_succ_of_lt hb)),Heap.get?_update_ne _ _ _ _ (As0 hb),Cz0 _ _ _ (As0 hb)];exact g
 have keep:∀v p,S.at_ s.heap v p->S.at_ H1 v p:=λv p z=>S.keep z λb o _ g=>old b o g
 refine Aa1 (wpAny_holding (Ak1 slot_list_sort {_,o1,rfl} entry_list_sort (xc4 (s:={ s with heap:=H1 }) (hR _ (by simp only[Around.in1_units];omega)) o1 (λv m=>(hv v m).imp λp z=>{z.1,keep v p z.2}) h128 λout a1 a2=>{_,rfl,?_}) (args_list_sort _)));refine Ac1 {_,rfl,?_};have:=h out a1 (a2.imp λ{x y} z p q zp zq=>z p q (keep _ _ zp) (keep _ _ zq));unfold sortedAll at this;rw[hH] at this;exact this
end
noncomputable abbrev Pt:=Int×Int
instance lxL:List Pt->List Pt->Bool
 | [],[]=>false
 | [],_::_=>true
 | _::_,[]=>false
 | a::l,b::m=>lx a b||(decide (a=b)&&lxL l m)
def xt2(a:Pt):lx a a=false:=yj2.mpr 'o'
theorem xt5:∀l,lxL l l=false
 | []=>rfl
 | a::l=>by unfold lxL;rw[xt2,xt5 l];simp
def zx0:lxL (a::l) (b::m)=true↔lx a b=true\/a=b/\lxL l m=true:=by
 show (lx a b||(decide (a=b)&&lxL l m))=true↔_;simp
def vz3(h1:lx a b=true)(h2:lx b c=true):lx a c=true:=by rw[ye6] at *;omega
theorem wi8:∀a b c,lxL a b=true->lxL b c=true->lxL a c=true
 | [],[],_,h,_=>by cases h
 | [],_::_,[],_,h=>by cases h
 | [],_::_,_::_,_,_=>rfl
 | _::_,[],_,h,_=>by cases h
 | _::_,_::_,[],_,h=>by cases h
 | a::l,b::m,c::n,h1,h2=>by
   rw[zx0] at *;rcases h1 with h1 | ⟨rfl,h1⟩
   ·rcases h2 with h2 | ⟨rfl,h2⟩
    ·exact .inl (vz3 h1 h2)
    ·exact .inl h1
   ·rcases h2 with h2 | ⟨rfl,h2⟩
    ·exact .inl h2
    ·exact .inr {rfl,wi8 l m n h1 h2}
def xt1(h1:lx a b=false)(h2:lx b a=false):a=b:=by rw[yj2] at *;exact Prod.ext 'o' 'o'
def wi7(b:Pt)(h:lx a c=true):lx a b=true\/lx b c=true:=by rw[ye6] at *;rw[ye6];omega
theorem xt4:∀a b c,lxL a c=true->lxL a b=true\/lxL b c=true
 | [],[],_,h=>.inr h
 | [],_::_,_,_=>.inl rfl
 | _::_,_,[],h=>by cases h
 | _::_,[],_::_,_=>.inr rfl
 | a::l,b::m,c::n,h=>by
   rw[zx0] at *;rw[zx0];rcases h with h | ⟨rfl,h⟩
   ·rcases wi7 b h with q | q
    ·exact .inl (.inl q)
    ·exact .inr (.inl q)
   ·cases q1:lx a b with
    | true=>exact .inl (.inl rfl)
    | false=>cases q2:lx b a with
      | true=>exact .inr (.inl rfl)
      | false=>
        have e:=xt1 q1 q2;subst e;rcases xt4 l m n h with q | q
        ·exact .inl (.inr ⟨rfl,q⟩)
        ·exact .inr (.inr ⟨rfl,q⟩)
theorem xt3:∀a b,lxL a b=false->lxL b a=false->a=b
 | [],[],_,_=>rfl
 | [],_::_,h,_=>by cases h
 | _::_,[],_,h=>by cases h
 | a::l,b::m,h1,h2=>by
   have n1:¬(lx a b=true\/a=b/\lxL l m=true):=λz=>by rw[zx0.mpr z] at h1;cases h1
   have n2:¬(lx b a=true\/b=a/\lxL m l=true):=λz=>by rw[zx0.mpr z] at h2;cases h2
   have e:a=b:=xt1 (by simpa using λz=>n1 (.inl z)) (by simpa using λz=>n2 (.inl z));subst e;rw[xt3 l m (by simpa using λz=>n1 (.inr ⟨rfl,z⟩)) (by simpa using λz=>n2 (.inr ⟨rfl,z⟩))]
instance stO:KeyOrd where
 α:=List Pt
 blt:=lxL
 irrefl:=xt5
 trans:=wi8
 negTrans:=xt4
 total:=xt3
instance ua6(h:Heap)(v:Value)(l:List Pt):Prop:=∃a o items n,v=.ref a/\h.get? a=some o/\o.cls=.type "tuple"/\o.data=.seq items n/\Paired (vd0 h) items.toList l
def vd0.fn(x:vd0 h v p)(y:vd0 h v q):p=q:=Option.some.inj (x.key.symm.trans y.key)
theorem xn3:∀{us:List Value} {l m:List Pt},Paired (vd0 h) us l->Paired (vd0 h) us m->l=m
 | _,_,_,.nil,.nil=>rfl
 | _,_,_,.cons a b,.cons c d=>by rw[a.fn c,xn3 b d]
def vd0.keep(k:∀b o,o.cls≠.type "list"->h.get? b=some o->h'.get? b=some o)(x:vd0 h v p):vd0 h' v p:=by
 obtain⟨a,o,n,t,u,e,g,c,d⟩:=x;exact{a,o,n,t,u,e,k _ _ (by rw[c];decide) g,c,d}
theorem yq8(k:∀b o,o.cls≠.type "list"->h.get? b=some o->h'.get? b=some o):∀{us:List Value} {l:List Pt},Paired (vd0 h) us l->Paired (vd0 h') us l
 | _,_,.nil=>.nil
 | _,_,.cons a b=>.cons (a.keep k) (yq8 k b)
def vd0.isKey(x:vd0 h v p):∃a,v=.ref a/\IsTupleKey (intKind prog w) h [p.1,p.2] a:=by
 obtain⟨a,o,n,t,u,e,g,c,d⟩:=x;exact{a,e,o,_,n,g,c,d,.cons (intKind_is _ _ _ _) (.cons (intKind_is _ _ _ _) .nil)}
def wz7(hu:A.units<cLine)(x:vd0 s.heap u p)(y:vd0 s.heap v q)(h:Q (decide (p=q)) s):wpAny 'r' A (eqBool u v) Q E s:=by
 obtain⟨a,rfl,ka⟩:=x.isKey (prog:=prog) (w:=w);obtain⟨b,rfl,kb⟩:=y.isKey (prog:=prog) (w:=w);refine wpAny_eqBool_tuple hu ka kb ?_;have e:decide ([p.1,p.2]=[q.1,q.2])=decide (p=q):=decide_eq_decide.mpr {λz=>by simp only[List.cons.injEq,and_true] at z;exact Prod.ext z.1 z.2,λz=>by rw[z]};rw[e];exact h
def wx6(hu:A.units<cLine)(x:vd0 s.heap u p)(y:vd0 s.heap v q)(h:Q (lx p q) s):wpAny 'r' A (oneLt' false u v) Q E s:=by
 rw[oneLt'_eq];simp only[Bf0,if_false];exact Aa1 (HT.lt_two hu x y (Ai1 h))
theorem xt8(hu:A.units<cLine){d:Bool}:∀{us vs:List Value} {l m:List Pt} (k:Nat),Paired (vd0 s.heap) us l->Paired (vd0 s.heap) vs m->d=decide (l.length<m.length)->Q (lxL l m) s->
 wpAny 'r' A (do
  for ((p,q),i) in (us.zip vs).zipIdx k do
   if !(<-eqBool p q) then return <-oneLt' (false&&i == 0) p q
  return d) Q E s
 | _,_,_,_,k,.nil,y,hd,h=>by
   simp only[List.zip_nil_left,List.zipIdx_nil,List.forIn_nil,pure_bind];refine Ac1 ?_;cases y<;>(rw[hd];exact h)
 | _,_,_,_,k,.cons x xs,.nil,hd,h=>by
   simp only[List.zip_nil_right,List.zipIdx_nil,List.forIn_nil,pure_bind];refine Ac1 ?_;rw[hd];exact h
 | _,_,_,_,k,@Paired.cons _ _ _ u p us l x xs,@Paired.cons _ _ _ v q vs m y ys,hd,h=>by
   simp only[List.zip_cons_cons,List.zipIdx_cons,List.forIn_cons,bind_assoc];refine Aa1 (wz7 hu x y ?_);by_cases e:p=q
   ·rw[Ap1 e]
    simp only[Co0,Bf0,if_false,pure_bind];refine xt8 hu (k+1) xs ys (by rw[hd];simp) ?_;have el:lxL (p::l) (q::m)=lxL l m:=by
     show (lx p q||(decide (p=q)&&lxL l m))=_;rw[e,xt2];simp
    rw[el] at h;exact h
   ·rw[Ao1 e]
    simp only[Bool.not_false,if_true,Bool.false_and,bind_assoc,pure_bind];refine Aa1 (wx6 hu x y (Ac1 ?_));have el:lxL (p::l) (q::m)=lx p q:=by
     show (lx p q||(decide (p=q)&&lxL l m))=_;rw[Ao1 e];simp
    rw[el] at h;exact h
def vb5{st:SortSt}(hu:A.units<cLine)(hk:kindOf st=tuples' false)(hx:ua6 s.heap x.1 a)(hy:ua6 s.heap y.1 b)(h:Q (some (lxL a b)) st):wpS 'r' A E s (lt' x y) Q st:=by
 obtain⟨i,o,us,n,e1,g1,_,d1,p1⟩:=hx;obtain⟨j,o2,vs,n2,e2,g2,_,d2,p2⟩:=hy;rw[lt'_eq];refine Ab1 (wpS_get ?_);rw[hk,zz9,e1,e2];refine Ab1 (wpS_lift (wpAny_attempt (Aa1 (listItems_at g1 d1 (Aa1 (listItems_at g2 d2 ?_))))));refine xt8 hu 0 p1 p2 ?_ {rfl,Ad1 h};rw[<-Aw0,<-Aw0,Paired.length p1,Paired.length p2]
def wp9(hv:∀v∈vs,∃p:List Pt,p≠[]/\ua6 s.heap v p)(h0:vs≠[]){Q:SortKind->Shared->Prop}(h:Q (tuples' false) s):wpAny 'r' A (keyKind' vs.toArray) Q E s:=by
 have fs:∀v∈vs,∃a o,fst? s.heap v=some (.ref a)/\s.heap.get? a=some o/\o.cls=.type "tuple":=λv m=>by
  obtain⟨p,ne,a,o,items,n,rfl,g,c,d,pr⟩:=hv v m;obtain⟨il⟩:=items;cases pr with
  | nil=>exact absurd rfl ne
  | cons z _=>
    obtain⟨b,o2,m2,t,u,rfl,g2,c2,_⟩:=z;exact{b,o2,by simp[fst?,g,d],g2,c2}
 rw[keyKind'_eq,List.mapM_toArray];refine Aa1 ?_;rw[map_eq_pure_bind];refine Aa1 (yl2 (g:=fst? s.heap) vs _ (λv m R hR=>?_) (Ac1 ?_))
 ·obtain⟨p,ne,a,o,items,n,rfl,g,c,d,pr⟩:=hv v m
  rw[xg1];refine Aa1 (wpAny_typeOf (T:="tuple") ⟨o,g,c⟩ ?_);rw[if_neg 'd'];refine Aa1 (listItems_at g d (Ac1 ?_));have:fst? s.heap (.ref a)=items[0]?:=by simp[fst?,g,d]
  rw[this] at hR;exact hR
 ·have all:((vs.map (fst? s.heap)).toArray.all (·.isSome))=true:=by
   simp only[List.all_toArray,List.all_map,Cm0];intro v m;obtain⟨a,o,e,_⟩:=fs v m;simp[e]
  rw[if_pos all];refine Aa1 (Aj1 ?_);have et:(vs.map (fst? s.heap)).toArray.filterMap id=((vs.map (fst? s.heap)).filterMap id).toArray:=by simp
  rw[et];have ty:∀u∈(vs.map (fst? s.heap)).filterMap id,∃a o,u=.ref a/\s.heap.get? a=some o/\o.cls=.type "tuple":=λu m=>by
   obtain⟨x,hx,e⟩:=List.mem_filterMap.mp m;obtain⟨v,hv',rfl⟩:=Bb0.mp hx;obtain⟨a,o,e2,g,c⟩:=fs v hv';rw[e2] at e;cases e;exact⟨a,o,rfl,g,c⟩
  have ne:(vs.map (fst? s.heap)).filterMap id≠[]:=λz=>by
   cases vs with
   | nil=>exact h0 rfl
   | cons v _=>
     obtain⟨a,o,e,_⟩:=fs v 'd';simp[e] at z
  generalize (vs.map (fst? s.heap)).filterMap id=ls at ty ne;rw[oneTypeOnly'_eq,List.mapM_toArray,map_eq_pure_bind];refine Aa1 (Aa1 (Aa1 (yl2 (g:=λ_=>Value.type "tuple") ls _ (λu m R hR=>?_) (Ac1 ?_))))
  ·obtain⟨a,o,rfl,g,c⟩:=ty u m
   exact wpAny_typeOf (T:="tuple") ⟨o,g,c⟩ hR
  ·cases ls with
   | nil=>exact absurd rfl ne
   | cons u us=>
     have hall:((List.map (λ_=>Value.type "tuple") (u::us)).toArray.all λx=>x == Value.type "tuple")=true:=by
      simp only[List.all_toArray,List.all_map,Cm0];intro _ _;rfl
     have h1:(List.map (λ_=>Value.type "tuple") (u::us)).toArray[0]?=some (Value.type "tuple"):=by simp
     rw[h1];simp only[hall,if_true];exact Ac1 (Ac1 h)
instance lxO:KeyOrd where
 α:=Pt
 blt:=lx
 irrefl:=xt2
 trans:=λ_ _ _=>vz3
 negTrans:=λ_ b _ h=>wi7 b h
 total:=λ_ _=>xt1
instance ul4(prog:Program)(w:World):Srt prog w lxO where
 at_:=vd0
 ok:=λ_=>True
 dflt:=(0,0)
 fn:=vd0.fn
 keep:=λx k=>x.keep k
 knd:=tuples' true
 room:=λ_=>True
 kind:=λhv h2 h=>xu7 (λv m=>(hv v m).imp λp z=>z.2) (λe=>by subst e;simp at h2) h
 cmp:=λ_ hk hx hy h=>wg1 _ _ _ _ _ _ hk hx.key hy.key h
instance stS(prog:Program)(w:World):Srt prog w stO where
 at_:=ua6
 ok:=λl=>l≠[]
 dflt:=[]
 fn:=λx y=>by
  obtain⟨a,o,i,n,e,g,_,d,p⟩:=x;obtain⟨a',o',i',n',e',g',_,d',p'⟩:=y;rw[e] at e';cases e';rw[g] at g';cases g';rw[d] at d';cases d';exact xn3 p p'
 keep:=λ⟨a,o,i,n,e,g,c,d,p⟩ k=>{a,o,i,n,e,k _ _ (by rw[c];decide) g,c,d,yq8 k p}
 knd:=tuples' false
 room:=λA=>A.units<cLine
 kind:=λhv h2 h=>wp9 hv (λe=>by subst e;simp at h2) h
 cmp:=λhu hk hx hy h=>vb5 hu hk hx hy h
end Ts
namespace L2
open PySem PySem.Spec PyProof PyProof.Rows Ts
instance vx0(O:KeyOrd)(a:O.α):List O.α->List O.α
 | []=>[a]
 | b::l=>if O.blt b a=true then b::vx0 O a l else a::b::l
instance ve0(O:KeyOrd)(l:List O.α):List O.α:=l.foldr (vx0 O) []
theorem ye9(a:O.α):∀l,(vx0 O a l).Perm (a::l)
 | []=>.refl _
 | b::l=>by
   unfold vx0;split
   ·exact((ye9 a l).cons b).trans (List.Perm.swap ..)
   ·exact .refl _
theorem zi6:∀l,(ve0 O l).Perm l
 | []=>.refl _
 | a::l=>(ye9 a (ve0 O l)).trans ((zi6 l).cons a)
open H in
theorem xw6(a:O.α):∀l,l.Pairwise O.kle->(vx0 O a l).Pairwise O.kle
 | [],_=>Cu0 _ _
 | b::l,h=>by
   have h':=Bm0.mp h;unfold vx0;split
   ·rename_i q
    refine Bm0.mpr {λx hx=>?_,xw6 a l h'.2};rcases Aj0.mp ((ye9 a l).mem_iff.mp hx) with rfl | hx
    ·exact KeyOrd.kle_of_klt q
    ·exact h'.1 x hx
   ·rename_i q
    have q:O.kle a b:=KeyOrd.kle_of_not_klt q;refine Bm0.mpr {λx hx=>?_,h};rcases Aj0.mp hx with rfl | hx
    ·exact q
    ·exact KeyOrd.kle_trans q (h'.1 x hx)
theorem ya5:∀l,(ve0 O l).Pairwise O.kle
 | []=>List.Pairwise.nil
 | a::l=>xw6 a _ (ya5 l)
def xg3{l m:List O.α}(p:m.Perm l)(u:m.Pairwise O.kle):m=ve0 O l:=
 (p.trans (zi6 l).symm).eq_of_pairwise (λa b _ _ h1 h2=>KeyOrd.kle_antisymm h1 h2) u (ya5 l)
section
variable{prog:Program}{w:World}{A:Around}{E:Value->Shared->Prop}{s:Shared}{O:KeyOrd}{S:Srt prog w O}{T:String}{r d:Addr}{n:Nat}{P:Nat->Value->Prop}{OK:Heap->Prop}
def yx3(hR:∀A':Around,A'.units<=A.units+4->S.room A')(K:PySem.W.KdlSrc prog w T r d n P OK)(hh:A.handled=none)(hok:OK s.heap)(hn:n<128)(hv:∀i v,P i v->∃p,(2<=n->S.ok p)/\S.at_ s.heap v p)(h:∀(p:Addr) (h1 h':Heap) (tk m:Nat) (out acc:Array Value),(∀b o,s.heap.get? b=some o->h1.get? b=some o)->h1.objs.size<=p->(∀b o,h1.get? b=some o->h'.get? b=some o)->h'.get? p=some (seqObj "list" out m)->ItemsOf P acc n->out.toList.Perm acc.toList->out.toList.Pairwise (λx y=>∀p q,S.at_ s.heap x p->S.at_ s.heap y q->O.kle p q)->Q (.ref p) { s with heap:=h',toks:=tk }) :
 wpAny 'r' A (call (.builtin "sorted") [.ref r]) Q E s:=by
 refine Calls.call_function_entry kind_sorted plain_sorted entry_sorted (args_sorted1 _) ?_;unfold Builtin.«sorted»;refine Aa1 (m:=checkCount "sorted" 1 1 _) (Ac1 (Aa1 (PySem.W.kdu_collect (A:=A.in1) K hh hok (by rw[sizeLine_eq];omega) λh' tk acc hk hacc=>?_)));have hlen:acc.toList.length=n:=by rw[Aw0];exact hacc.1
 refine Aa1 (wpAny_newList ?_ (by rw[hlen,sizeLine_eq];omega));show wpAny _ _ _ _ _ { s with heap:=h'.push (seqObj "list" acc.toList.toArray 0),toks:=tk };have o1:(h'.push (seqObj "list" acc.toList.toArray 0)).get? h'.objs.size=some (seqObj "list" acc.toList.toArray 0):=Ag0 _ rfl;have old:∀b o,h'.get? b=some o->(h'.push (seqObj "list" acc.toList.toArray 0)).get? b=some o:=λb o g=>Ab0 _ g
 generalize hH:h'.push (seqObj "list" acc.toList.toArray 0)=H1 at o1 old ⊢;have keep:∀v p,S.at_ s.heap v p->S.at_ H1 v p:=λv p z=>S.keep z λb o _ g=>old b o (hk b o g)
 have two:∀v∈acc.toList,∃p,(2<=n->S.ok p)/\S.at_ s.heap v p:=λv m=>by
  obtain⟨j,hj,e⟩:=List.getElem_of_mem m;exact hv j v (hacc.2 j v (by rw[<-Cf0,Ad0 hj,e]))
 refine Aa1 (wpAny_holding (Ak1 slot_list_sort {_,o1,rfl} entry_list_sort (xc4 (s:={ s with heap:=H1,toks:=tk }) (hR _ (by simp only[Around.in1_units];omega)) o1 (λv m=>(two v m).imp λp z=>{λl=>z.1 'o',keep v p z.2}) (by rw[hlen];exact hn) λout a1 a2=>{_,rfl,Ac1 {_,rfl,?_}}) (args_list_sort _)));obtain⟨m,om⟩:=xo2 (out:=out) o1;refine h _ h' _ _ m out acc hk (Ae0 _) (λb o g=>xj7 (λe=>?_) (old b o g)) om hacc a1 (a2.imp λ{x y} z p q zp zq=>z p q (keep _ _ zp) (keep _ _ zq));exact absurd (Heap.lt_size g) (by rw[e];exact Bz0 _)
end
section
variable{X:Cx}{O:KeyOrd}{S:Srt X.prog X.w O}{VR:Hp->V->O.α->Prop}
def wh6{A3:List 'p'}{Y:St}{H:Hp}{s:Shared}(I:Inv X A3 Y H s)(rel:∀(v:V) (u:Value) (p:O.α),vc7 v u->VR H v p->S.at_ s.heap u p){vs:List V}{its:List Value}{ps:List O.α}{out:Array Value}(rv:vc8 vs its)(hp:Paired (VR H) vs ps)(p1:out.toList.Perm its)(u1:out.toList.Pairwise λx y=>∀p q,S.at_ s.heap x p->S.at_ s.heap y q->O.kle p q):∃vs',vc8 vs' out.toList/\Paired (VR H) vs' (ve0 O ps)/\vs'.length=ps.length:=by
 have t3:∀{vs:List V} {its:List Value} {ps:List O.α},vc8 vs its->Paired (VR H) vs ps->∃zs:List (V×O.α),Paired (λ(z:V×O.α) u=>vc7 z.1 u/\VR H z.1 z.2) zs its/\zs.map (·.2)=ps:=by
  intro vs its ps rv;induction rv generalizing ps with
  | nil=>intro hp;cases hp;exact{[],.nil,rfl}
  | cons r1 _ ih=>
    intro hp;cases hp with
    | cons z hp=>
      obtain⟨zs,i1,i2⟩:=ih hp;exact{(_,_)::zs,.cons ⟨r1,z⟩ i1,by rw[Au0,i2]}
 obtain⟨zs,z1,z2⟩:=t3 rv hp;obtain⟨zs',pz,z3⟩:=yy4 p1 z1;have un:∀{zs:List (V×O.α)} {its:List Value},Paired (λ(z:V×O.α) u=>vc7 z.1 u/\VR H z.1 z.2) zs its->vc8 (zs.map (·.1)) its/\Paired (VR H) (zs.map (·.1)) (zs.map (·.2)):=by
  intro zs its z;induction z with
  | nil=>exact{.nil,.nil}
  | cons y _ ih=>exact{.cons y.1 ih.1,.cons y.2 ih.2}
 have up:∀{zs:List (V×O.α)} {its:List Value},Paired (λ(z:V×O.α) u=>vc7 z.1 u/\VR H z.1 z.2) zs its->its.Pairwise (λx y=>∀p q,S.at_ s.heap x p->S.at_ s.heap y q->O.kle p q)->(zs.map (·.2)).Pairwise O.kle:=by
  intro zs its z;induction z with
  | nil=>intro _;exact List.Pairwise.nil
  | @cons a u zs us y yr ih=>
    intro hu;obtain⟨h1,h2⟩:=Bm0.mp hu;rw[Au0];refine Bm0.mpr {λp hp=>?_,ih h2};obtain⟨b,hb,rfl⟩:=Bb0.mp hp;have:∃u'∈us,vc7 b.1 u'/\VR H b.1 b.2:=by
     clear ih hu h1 h2 hp y;induction yr with
     | nil=>cases hb
     | cons y' _ ih=>
       rcases Aj0.mp hb with r | r
       ·subst r;exact{_,'d',y'}
       ·obtain⟨u',m,q⟩:=ih r;exact{u',by simp[m],q}
    obtain⟨u',m,r',q'⟩:=this;exact h1 u' m _ _ (rel _ _ _ y.1 y.2) (rel _ _ _ r' q')
 obtain⟨w1,w2⟩:=un z3;have e:zs'.map (·.2)=ve0 O ps:=xg3 (by rw[<-z2];exact pz.map _) (up z3 u1);exact{_,w1,by rw[<-e];exact w2,by rw[Aa0,pz.length_eq,<-z2,Aa0]}
noncomputable abbrev xp3(X:Cx)(S:Srt X.prog X.w O)(VR:Hp->V->O.α->Prop)(K:PySem.W.Frag):List V->Hp->VK->Prop:=λxs H Q=>∃(a:Addr) (vs:List V) (ps:List O.α),xs=[.ref a]/\SqL K H a vs/\Paired (VR H) vs ps/\ps.length<128/\(2<=ps.length->∀p∈ps,S.ok p)/\∀p vs',H p=none->Paired (VR H) vs' (ve0 O ps)->Q (.ref p) (upd H p (.lst vs'))
theorem zy3{α β:Type}{F:α->β->Prop}:∀{as:List α} {bs:List β},Paired F as bs->∀b∈as,∃c∈bs,F b c
 | _,_,.nil,b,h=>by cases h
 | _,_,.cons x r,b,h=>by
   rcases Aj0.mp h with e | e
   ·subst e;exact{_,'d',x}
   ·obtain⟨c,m,z⟩:=zy3 r b e;exact{c,by simp[m],z}
theorem yl4:∀{vs:List V} {us:List Value},vc8 vs us->∀u∈us,∃v∈vs,vc7 v u
 | _,_,.nil,b,h=>by cases h
 | _,_,.cons x r,b,h=>by
   rcases Aj0.mp h with e | e
   ·subst e;exact{_,'d',x}
   ·obtain⟨c,m,z⟩:=yl4 r b e;exact{c,by simp[m],z}
def ya2(rel:∀(A3:List 'p') (s:Shared) (Y:St) (H:Hp) (v:V) (u:Value) (p:O.α),Inv X A3 Y H s->vc7 v u->VR H v p->S.at_ s.heap u p)(hR:∀A':Around,A'.units<=X.A.units+4->S.room A') :
 vf3 X (.builtin "sorted") (xp3 X S VR X.K):=by
 intro A3 s Y H xs us Q I r h;obtain⟨a,vs,ps,rfl,hq,hp,h128,hok,q⟩:=h;obtain⟨u,rfl,r1⟩:=vh6 r;cases r1;obtain⟨its,rv,pl,hz⟩:=I.list hq;have hl:=rv.length;have hl2:=Paired.length hp;refine xj8 (S:=S) hR pl.isList (λu m=>?_) 'o' λout p1 u1=>?_
 ·obtain⟨v,mv,rr⟩:=yl4 rv u m
  obtain⟨p,mp,vr⟩:=zy3 hp v mv;exact{p,λl2=>hok 'o' p mp,rel _ _ _ _ _ _ _ I rr vr}
 ·obtain⟨vs',w1,w2,w3⟩:=wh6 (S:=S) I (λv u p a b=>rel _ _ _ _ v u p I a b) rv hp p1 u1
  obtain⟨e,he⟩:=sortedAll_at s.heap its out;refine{.ref (s.heap.objs.size+1),_,I.laid (t':=s.toks) (a:=s.heap.objs.size+1) (o:=.lst vs') (λb o e=>sortedAll_old e) (Nat.le_succ _) ?_,rfl,q _ _ (I.hok.fresh (Nat.le_succ _)) w2};exact{by rw[w3];exact Cq0 (zq5 'o'),out.toList,e,w1,he}
end
noncomputable abbrev Pr1(H:Hp)(v:V)(p:P2):Prop:=∃b,v=.ref b/\H b=some (.tup [.int p.1,.int p.2])
theorem xn4(I:Inv X A3 Y H s)(hb:H b=some (.tup [.int p.1,.int p.2])):vd0 s.heap (.ref b) p:=by
 obtain⟨js,rj,⟨o,g,cl,n,d⟩,_⟩:=I.tuple (SqT.of hb);cases rj with
 | cons x1 rj=>cases rj with
   | cons x2 rj=>
     cases rj;obtain⟨t1,rfl⟩:=x1;obtain⟨t2,rfl⟩:=x2;exact⟨b,o,n,t1,t2,rfl,g,cl,d⟩
def wm9(ps:List P2):ve0 lxO ps=vg2 ps:=wf4 (zi6 (O:=lxO) ps) ((ya5 (O:=lxO) ps).imp λh=>wp4 h)
def yp6:vf3 X (.builtin "sorted") (λxs H Q=>∃(a:Addr) (vs:List V) (ps:List P2),xs=[.ref a]/\SqL X.K H a vs/\PrV H vs ps/\ps.length<128/\∀p vs',H p=none->PrV H vs' (vg2 ps)->Q (.ref p) (upd H p (.lst vs'))):=by
 intro A3 s Y H xs us Q I r h;obtain⟨a,vs,ps,rfl,hq,hp,h128,q⟩:=h;exact ya2 (S:=ul4 X.prog X.w) (VR:=Pr1) (λA3 s Y H v u p I r ⟨b,e,hb⟩=>by subst e;cases r;exact xn4 I hb) (λ_ _=>trivial) A3 s Y H _ us Q I r {a,vs,ps,rfl,hq,hp,h128,λ_ _ _=>trivial,λp vs' hp w=>q p vs' hp (by rw[<-wm9];exact w)}
instance StV(H:Hp)(v:V)(l:List P2):Prop:=∃b us,v=.ref b/\H b=some (.tup us)/\PrV H us l
theorem xc0(I:Inv X A3 Y H s):∀{us:List V} {is:List Value} {l:List P2},vc8 us is->PrV H us l->Paired (vd0 s.heap) is l
 | _,_,_,.nil,.nil=>.nil
 | _,_,_,.cons r rs,.cons z zs=>by
   obtain⟨b,e,hb⟩:=z;rw[e] at r;cases r;exact .cons (xn4 I hb) (xc0 I rs zs)
def xo0(A3:List 'p')(s:Shared)(Y:St)(H:Hp)(v:V)(u:Value)(l:List P2)(I:Inv X A3 Y H s)(r:vc7 v u)(z:StV H v l):ua6 s.heap u l:=by
 obtain⟨b,us,e,hb,pr⟩:=z;rw[e] at r;cases r;obtain⟨js,rj,⟨o,g,cl,n,d⟩,_⟩:=I.tuple (SqT.of hb);exact{b,o,_,n,rfl,g,cl,d,by simpa using xc0 I rj pr}
def ya1{k:Nat}(hr:vd5 k X.A):vf3 X (.builtin "sorted") (xp3 X (stS X.prog X.w) StV X.K):=
 ya2 (S:=stS X.prog X.w) xo0 λA' h=>by
  have:=hr.units;show A'.units<cLine;omega
instance kyS(l:List P2):List vc6:=l.map λp=>.t [.inl p.1,.inl p.2]
theorem wh4:∀{l:List P2} {vs:List V},Paired (KIs H) (kyS l) vs->PrV H vs l
 | [],_,.nil=>.nil
 | _::_,_,.cons a b=>.cons a (wh4 b)
def wn1(h:vk4 H b (kyS l)):StV H (.ref b) l:=by
 obtain⟨vs,e,p⟩:=h;exact{b,vs,rfl,e,wh4 p}
noncomputable abbrev yx8(xs:List V)(H:Hp)(Q:VK):Prop:=∃(a:Addr) (kvs:List (List vc6×V)) (ps:List (List P2)),xs=[.ref a]/\Rd H a (.dT kvs)/\kvs.map (·.1)=ps.map kyS/\ps.length<128/\(2<=ps.length->∀p∈ps,p≠[])/\∀p vs',H p=none->Paired (StV H) vs' (ve0 stO ps)->Q (.ref p) (upd H p (.lst vs'))
def yp7(hc:X.calm=true){k:Nat}(hr:vd5 k X.A):vf3 X (.builtin "sorted") yx8:=by
 intro A3 s Y H xs us Q I r h;obtain⟨a,kvs,ps,rfl,hq,hk,h128,hok,q⟩:=h;obtain⟨u,rfl,r1⟩:=vh6 r;cases r1;obtain⟨z,hd,xs,rel,o,es,ep,g,ex,dat,et,nd⟩:=vk0 I.hok hq;have eo:o=vn7 es ep:=by
  obtain⟨cl,di,da,sl⟩:=o;obtain⟨e1,e2,e3⟩:=ex;simp only at e1 e2 e3 dat;subst e1 e2 e3 dat;rfl
 subst eo;have two:∀{kvs:List (List vc6×V)} {xs:List (List vc6×Addr×Value)} {ps:List (List P2)},KT H kvs xs->kvs.map (·.1)=ps.map kyS->vc8 (xs.map λx=>V.ref x.2.1) (xs.map λx=>Value.ref x.2.1)/\Paired (StV H) (xs.map λx=>V.ref x.2.1) ps:=by
  intro kvs xs ps rel;induction rel generalizing ps with
  | nil=>
    intro e;cases ps with
    | nil=>exact{.nil,.nil}
    | cons _ _=>cases e
  | @cons p x _ _ h1 _ ih=>
    intro e;cases ps with
    | nil=>cases e
    | cons l ps=>
      rw[Au0,Au0] at e;injection e with e1 e2
      obtain⟨i1,i2⟩:=ih e2;have hb:vk4 H x.2.1 p.1:=h1.2.1;rw[e1] at hb;exact{.cons rfl i1,.cons (wn1 hb) i2}
 obtain⟨rv,hp⟩:=two rel hk;have ekey:es.toList.map (·.key)=xs.map λx=>Value.ref x.2.1:=by rw[et,Bq0];rfl
 have hsz:es.size=ps.length:=by
  have h1:=congrArg List.length ekey;rw[Aa0,Aa0,Aw0] at h1;rw[h1,<-Paired.length hp,Aa0]
 refine yx3 (S:=stS X.prog X.w) (λA' h=>by have:=hr.units;show A'.units<cLine;omega) (xc3 hd es ep) (I.ok.hd hc) g 'o' (λi v hI127=>?_) λp h1 h' tk n out acc k1 lp k2 go hi p1 u1=>?_
 ·obtain⟨e,he,ev⟩:=hI127
  have m:v∈xs.map λx=>Value.ref x.2.1:=by
   rw[<-ekey,ev];exact Bb0.mpr {e,by rw[<-Cf0] at he;exact Am0 he,rfl}
  obtain⟨v',mv,rr⟩:=yl4 rv v m;obtain⟨p,mp,vr⟩:=zy3 hp v' mv;exact{p,λl2=>hok 'o' p mp,xo0 _ _ _ _ _ _ _ I rr vr}
 ·have ha:acc.toList=xs.map λx=>Value.ref x.2.1:=by
   rw[<-ekey];apply Ck0;intro j;rw[Af0,Cf0,Cf0];by_cases hj:j<es.size
   ·obtain⟨e,he,hv⟩:=hi.2 j _ (Bc0 (by rw[hi.1];exact hj))
    rw[Bc0 (by rw[hi.1];exact hj),hv,he];rfl
   ·rw[Cy0 (by rw[hi.1];omega),Cy0 'o'];rfl
  rw[ha] at p1;obtain⟨vs',w1,w2,w3⟩:=wh6 (S:=stS X.prog X.w) I (λv u p a b=>xo0 _ _ _ _ v u p I a b) rv hp p1 u1;have I1:Inv X A3 Y H { s with heap:=h1,toks:=tk }:=I.kept k1;exact{.ref p,_,I1.laid (t':=tk) (a:=p) (o:=.lst vs') k2 lp {by rw[w3];exact Cq0 (zq5 (show ps.length<=1000 from Cq0 (Nat.lt_trans h128 'z'))),out.toList,n,w1,go},rfl,q _ _ (I1.hok.fresh lp) w2}
noncomputable abbrev plD(l:List P2):D:=.tup (l.map prD)
instance vf9:List D->Option (List (List P2))
 | []=>some []
 | .tup m::l=>(vg0 m).bind λp=>(vf9 l).map λr=>p::r
 | _=>none
theorem zv4:∀ps:List (List P2),vf9 (ps.map plD)=some ps
 | []=>rfl
 | p::ps=>by
   show (vg0 (p.map prD)).bind (λq=>(vf9 (ps.map plD)).map λr=>q::r)=_;rw[yd5,zv4 ps];rfl
theorem xc2{K:PySem.W.Frag}{A:Addr->Prop}{H:Hp}:∀{l:List D} {vs:List V} {ps:List (List P2)},vf9 l=some ps->IsL K A H l vs->Paired (StV H) vs ps
 | [],vs,ps,e,h=>by cases e;rw[IsL.nil.mp h];exact .nil
 | d::l,vs,ps,e,h=>by
   obtain⟨v,r,e1,i1,i2⟩:=IsL.cons.mp h;cases d with
   | tup m=>
     have e:(vg0 m).bind (λp=>(vf9 l).map λr=>p::r)=some ps:=e;cases q:vg0 m with
     | none=>rw[q] at e;cases e
     | some p=>
       rw[q] at e;cases q2:vf9 l with
       | none=>rw[q2] at e;cases e
       | some rs=>
         rw[q2] at e;cases e;obtain⟨b,ws,e2,hb,i3⟩:=Is.tup_iff.mp i1;rw[e1];exact .cons {b,ws,e2,hb,ym2 q i3} (xc2 q2 i2)
   | _=>cases e
theorem xo1{K:PySem.W.Frag}{A:Addr->Prop}{H:Hp}:∀{ps:List (List P2)} {vs:List V},Paired (StV H) vs ps->IsL K A H (ps.map plD) vs
 | _,_,.nil=>IsL.nil.mpr rfl
 | _,_,.cons h t=>IsL.cons.mpr {_,_,rfl,by
   obtain⟨b,us,e,hb,pr⟩:=h;rw[e];exact Is.tup hb (xq2 pr),xo1 t}
theorem yn7:∀ps:List (List P2),D.immL (ps.map plD)=true
 | []=>rfl
 | p::ps=>by simp[D.immL,D.imm,yn8 p,yn7 ps]
instance okS(ps:List (List P2)):Bool:=decide (ps.length<128)&&(decide (ps.length<2)||ps.all λp=>!p.isEmpty)
def xr9(h:okS ps=true):ps.length<128/\(2<=ps.length->∀p∈ps,p≠[]):=by
 unfold okS at h;simp only[Bool.and_eq_true,Bool.or_eq_true,decide_eq_true_eq,Cm0] at h;refine{h.1,λl p m z=>?_};rcases h.2 with q | q
 ·omega
 ·have:=q p m
  rw[z] at this;cases this
instance yj0:List D->Option D
 | [.lst l]=>(vf9 l).bind λps=>if okS ps=true then some (.lst ((ve0 stO ps).map plD)) else none
 | _=>none
section
variable{X:Cx}{S:Type}{W:Wd S}{c:Dx W}{K:PySem.W.Frag}{A:Addr->Prop}{H:Hp}{A3:List 'p'}{Y:St}{s:Shared}
open H in
def xh9{K:PySem.W.Frag}(hK:c.K=K):vf4 c (xp3 X (stS X.prog X.w) StV K) yj0:=by
 subst hK;intro l vs H st d Q ok z e q;unfold yj0 at e;split at e
 ·rename_i m
  cases qq:vf9 m with
  | none=>rw[qq] at e;cases e
  | some ps=>
    rw[qq] at e;have e:(if okS ps=true then some (D.lst ((ve0 stO ps).map plD)) else none)=some d:=e;split at e
    ·rename_i h128
     cases e;obtain⟨o1,o2⟩:=xr9 h128;obtain⟨v,r,e1,i1,i2⟩:=IsL.cons.mp z;obtain⟨a,us,ea,_,s1,i3⟩:=Is.lst_iff.mp i1;rw[IsL.nil.mp i2,ea] at e1;exact{a,us,ps,e1,.of s1,xc2 qq i3,o1,o2,λp vs' hp w=>q _ _ (Ext.laid hp) (zd9 ok hp) (New.lst ok hp (λ_ n=>n) (yn7 _) (xo1 (A:=λb=>¬W.mv b) w))}
    ·cases e
 ·cases e
open H in
theorem xv0:∀{k:List vc6} {l:List P2},vg0 (k.map vg9)=some l->k=kyS l
 | [],l,e=>by cases e;rfl
 | a::k,l,e=>by
   rw[Au0] at e;unfold vg0 at e;split at e
   ·rename_i he;cases he
   ·rename_i x y m he
    injection he with he1 he2
    subst he2;cases q:vg0 (k.map vg9) with
    | none=>rw[q] at e;cases e
    | some rs=>
      rw[q] at e;cases e;rw[xv0 q];cases a with
      | inl i=>cases he1
      | inr i=>cases he1
      | t n=>
        have he1:D.tup (n.map vi9)=.tup [.int x,.int y]:=he1;injection he1 with he1
        match n,he1 with
        | [a,b],he1=>
          simp only[Au0,List.map_nil,List.cons.injEq,and_true] at he1;obtain⟨e1,e2⟩:=he1;cases a<;>cases b<;>simp[vi9] at e1 e2;subst e1 e2;rfl
        | [],he1=>simp at he1
        | [_],he1=>simp at he1
        | _::_::_::_,he1=>simp at he1
   ·cases e
theorem xf2:∀{kk:List (List vc6)} {ps:List (List P2)},vf9 (kk.map vc4)=some ps->kk=ps.map kyS
 | [],ps,e=>by cases e;rfl
 | k::kk,ps,e=>by
   have e:(vg0 (k.map vg9)).bind (λp=>(vf9 (kk.map vc4)).map λr=>p::r)=some ps:=e;cases q:vg0 (k.map vg9) with
   | none=>rw[q] at e;cases e
   | some p=>
     rw[q] at e;cases q2:vf9 (kk.map vc4) with
     | none=>rw[q2] at e;cases e
     | some rs=>
       rw[q2] at e;cases e;rw[Au0,xv0 q,xf2 q2]
instance ym8:List D->Option D
 | [.dct (.non::ks) _]=>(vf9 ks).bind λps=>if okS ps=true then some (.lst ((ve0 stO ps).map plD)) else none
 | [.fd ks _]=>(vf9 ks).bind λps=>if okS ps=true then some (.lst ((ve0 stO ps).map plD)) else none
 | _=>none
open H in
def xz6:vf4 c yx8 ym8:=by
 intro l vs H st d Q ok z e q;have fin:∀(a:Addr) (kk:List (List vc6)) (us:List V),vs=[.ref a]->kk.length=us.length->Rd H a (.dT (kk.zip us))->(vf9 (kk.map vc4)).bind (λps=>if okS ps=true then some (D.lst ((ve0 stO ps).map plD)) else none)=some d->yx8 vs H Q:=λa kk us ev el hr e=>by
  cases qq:vf9 (kk.map vc4) with
  | none=>rw[qq] at e;cases e
  | some ps=>
    rw[qq] at e;have e:(if okS ps=true then some (D.lst ((ve0 stO ps).map plD)) else none)=some d:=e;split at e
    ·rename_i h128
     cases e;obtain⟨o1,o2⟩:=xr9 h128;exact{a,kk.zip us,ps,ev,hr,by rw[List.map_fst_zip (Cr0 el),xf2 qq],o1,o2,λp vs' hp w=>q _ _ (Ext.laid hp) (zd9 ok hp) (New.lst ok hp (λ_ n=>n) (yn7 _) (xo1 (A:=λb=>¬W.mv b) w))}
    ·cases e
 unfold ym8 at e;split at e
 ·rename_i ks m
  obtain⟨v,r,e1,i1,i2⟩:=IsL.cons.mp z;obtain⟨a,us,ea,av,i,hk⟩:=Is.dct_iff.mp i1;rw[IsL.nil.mp i2,ea] at e1;rcases hk with⟨k1,e3,_,_⟩ | ⟨kk,e2,el,ha⟩
  ·cases k1 with
   | nil=>cases e3
   | cons z r=>
     have:D.non=vi9 z:=(List.cons.inj e3).1;cases z<;>cases this
  ·have e4:=(List.cons.inj e2).2
   subst e4;exact fin a kk us e1 el (.inl ha) e
 ·rename_i ks m
  obtain⟨v,r,e1,i1,i2⟩:=IsL.cons.mp z;obtain⟨a,o,us,kk,ea,ek,el,ha,i⟩:=Is.fd_iff.mp i1;rw[IsL.nil.mp i2,ea] at e1;subst ek;exact fin a kk us e1 el (.inr ⟨o,ha⟩) e
 ·cases e
theorem xv6:∀(l:List Key),IsL K A H (l.map vi9) (l.map kV)
 | []=>IsL.nil.mpr rfl
 | .inl i::l=>IsL.cons.mpr {_,_,rfl,Is.int_iff.mpr rfl,xv6 l}
 | .inr i::l=>IsL.cons.mpr {_,_,rfl,Is.str_iff.mpr rfl,xv6 l}
theorem wy0(h:KIs H k v):Is K A H (vg9 k) v:=by
 cases k with
 | inl i=>exact Is.int_iff.mpr h
 | inr i=>exact Is.str_iff.mpr h
 | t l=>
   obtain⟨b,e,q⟩:=h;rw[e];exact Is.tup q (xv6 l)
theorem xu6:∀{k:List vc6} {vs:List V},Paired (KIs H) k vs->IsL K A H (k.map vg9) vs
 | _,_,.nil=>IsL.nil.mpr rfl
 | _,_,.cons a b=>IsL.cons.mpr {_,_,rfl,wy0 a,xu6 b}
def wm0(h:vk4 H b k):Is K A H (vc4 k) (.ref b):=by
 obtain⟨vs,e,p⟩:=h;exact Is.tup e (xu6 p)
instance KyV(H:Hp)(v:V)(k:List vc6):Prop:=∃b,v=.ref b/\vk4 H b k
theorem xv3:∀{kk:List (List vc6)} {vs:List V},Paired (KyV H) vs kk->IsL K A H (kk.map vc4) vs
 | _,_,.nil=>IsL.nil.mpr rfl
 | _,_,.cons ⟨b,e,h⟩ r=>IsL.cons.mpr {_,_,rfl,by rw[e];exact wm0 h,xv3 r}
theorem yu7:∀kk:List (List vc6),D.immL (kk.map vc4)=true
 | []=>rfl
 | k::kk=>by
   have h1:∀l:List Key,D.immL (l.map vi9)=true:=λl=>by
    induction l with
    | nil=>rfl
    | cons a l ih=>cases a<;>simp[D.immL,D.imm,vi9,ih]
   have h:∀l:List vc6,D.immL (l.map vg9)=true:=λl=>by
    induction l with
    | nil=>rfl
    | cons a l ih=>cases a<;>simp[D.immL,D.imm,vg9,ih,h1]
   simp[D.immL,D.imm,vc4,h k,yu7 kk]
noncomputable abbrev wh9(xs:List V)(H:Hp)(Q:VK):Prop:=∃(a:Addr) (kvs:List (List vc6×V)),xs=[.ref a]/\Rd H a (.dT kvs)/\∀p vs',H p=none->Paired (KyV H) vs' (kvs.map (·.1))->Q (.ref p) (upd H p (.lst vs'))
def yk6(hc:X.calm=true):vf3 X (.type "list") wh9:=by
 intro A3 s Y H xs us Q I r h;obtain⟨a,kvs,rfl,hq,q⟩:=h;obtain⟨u,rfl,r1⟩:=vh6 r;cases r1;obtain⟨z,hd,xs,rel,o,es,ep,g,ex,dat,et,nd⟩:=vk0 I.hok hq;have eo:o=vn7 es ep:=by
  obtain⟨cl,di,da,sl⟩:=o;obtain⟨e1,e2,e3⟩:=ex;simp only at e1 e2 e3 dat;subst e1 e2 e3 dat;rfl
 subst eo;have two:∀{kvs:List (List vc6×V)} {xs:List (List vc6×Addr×Value)},KT H kvs xs->vc8 (xs.map λx=>V.ref x.2.1) (xs.map λx=>Value.ref x.2.1)/\Paired (KyV H) (xs.map λx=>V.ref x.2.1) (kvs.map (·.1)):=by
  intro kvs xs rel;induction rel with
  | nil=>exact{.nil,.nil}
  | cons h1 _ ih=>exact{.cons rfl ih.1,.cons {_,rfl,h1.2.1} ih.2}
 obtain⟨rv,hp⟩:=two rel;have ekey:es.toList.map (·.key)=xs.map λx=>Value.ref x.2.1:=by rw[et,Bq0];rfl
 have hsz:es.size=kvs.length:=by
  have h1:=congrArg List.length ekey;rw[Aa0,Aa0,Aw0] at h1;rw[h1,<-Paired.length rel]
 refine PySem.W.kdl_call (xc3 hd es ep) (I.ok.hd hc) g 'o' λh' tk acc n k1 go hi=>?_
 have ha:acc.toList=xs.map λx=>Value.ref x.2.1:=by
  rw[<-ekey];apply Ck0;intro j;rw[Af0,Cf0,Cf0];by_cases hj:j<es.size
  ·obtain⟨e,he,hv⟩:=hi.2 j _ (Bc0 (by rw[hi.1];exact hj))
   rw[Bc0 (by rw[hi.1];exact hj),hv,he];rfl
  ·rw[Cy0 (by rw[hi.1];omega),Cy0 'o'];rfl
 refine{.ref s.heap.objs.size,_,I.laid (t':=tk) (a:=s.heap.objs.size) (o:=.lst (xs.map λx=>V.ref x.2.1)) k1 (Ae0 _) {?_,acc.toList,n,by rw[ha];exact rv,?_},rfl,q _ _ (I.hok.fresh (Ae0 _)) hp}
 ·rw[Aa0,<-Paired.length rel];exact z
 ·exact go
instance xs2:List D->Option D
 | [.dct (.non::ks) _]=>some (.lst ks)
 | _=>none
open H in
def xi0:vf4 c wh9 xs2:=by
 intro l vs H st d Q ok z e q;unfold xs2 at e;split at e
 ·rename_i ks m
  cases e;obtain⟨v,r,e1,i1,i2⟩:=IsL.cons.mp z;obtain⟨a,us,ea,av,i,hk⟩:=Is.dct_iff.mp i1;rw[IsL.nil.mp i2,ea] at e1;rcases hk with⟨k1,e3,_,_⟩ | ⟨kk,e2,el,ha⟩
  ·cases k1 with
   | nil=>cases e3
   | cons z r=>
     have:D.non=vi9 z:=(List.cons.inj e3).1;cases z<;>cases this
  ·have e4:=(List.cons.inj e2).2
   subst e4;refine{a,kk.zip us,e1,.inl ha,λp vs' hp w=>q _ _ (Ext.laid hp) (zd9 ok hp) (New.lst ok hp (λ_ n=>n) (yu7 _) (xv3 (A:=λb=>¬W.mv b) ?_))};rw[List.map_fst_zip (Cr0 el)] at w;exact w
 ·cases e
instance vu1(l:List D):Option D:=if l.length<=sizeLine then some (.tup l) else none
end
section
variable{X:Cx}{S:Type}{W:Wd S}{c:Dx W}
instance ul3(c:Dx W)(b:Addr):Prop:=¬W.mv b/\c.H0 b=none
instance tN(c:Dx W)(f:Fn S):TE:=λY H Q=>∃Z st,Rep c H Y Z/\W.ok st H/\
 wpR (f Z st) (λd st'=>∀v H',Ext W H H'->W.ok st' H'->Is c.K (ul3 c) H' d v->Q v H') λx st'=>∀H',Ext W H H'->W.ok st' H'->c.Ex x st' H'
instance DN(X:Cx){S:Type}{W:Wd S}(c:Dx W)(e:Expr)(f:Fn S):Prop:=PE X e (tN c f)
instance tNs(c:Dx W)(f:FnA S):TA:=λY H Q=>∃Z st,Rep c H Y Z/\W.ok st H/\
 wpR (f Z st) (λl st'=>∀vs H',Ext W H H'->W.ok st' H'->IsL c.K (ul3 c) H' l vs->Q vs H') λx st'=>∀H',Ext W H H'->W.ok st' H'->c.Ex x st' H'
instance DNs(X:Cx){S:Type}{W:Wd S}(c:Dx W)(es:List Expr)(f:FnA S):Prop:=PA X es (tNs c f)
def wr5:DNs X c [] (vx2 S):=zn8.imp λY H Q ⟨Z,st,R,ok,w⟩=>w [] H Ext.refl ok (IsL.nil.mpr rfl)
def xg7(h:DN X c e f)(hr:DNs X c es r)(hs:autoParam (starEach (e::es) X.env=(false,eval e X.env)::starEach es X.env) uR):DNs X c (e::es) (vf8 S f r):=
 (zf6 h hr hs).imp λY H Q hI54=>by
  obtain⟨Z,st,R,ok,w⟩:=hI54;refine{Z,st,R,ok,za6 (za2.mp w) (λd st1 q v H1 e ok1 z=>?_) λx st1 q=>q};refine{Z,st1,R.ext ok e,ok1,za6 (za2.mp q) (λl st2 q vs H2 e2 ok2 z2=>?_) λx st2 q H2 e2 ok2=>q H2 (e.trans e2) ok2};exact q (v::vs) H2 (e.trans e2) ok2 (IsL.cons.mpr {v,vs,rfl,z.ext e2 ok1 (λb n=>n.1),z2})
instance uk3(S:Type)(i:Nat):Fn S:=λZ st=>vd2 (own? Z i) st
open H in
theorem wj7{i:Nat}{x:Str}(h:PE X (.Name x p) (vj0 i)):DN X c (.Name x p) (uk3 S i):=h.imp λY H Q hI55=>by
 obtain⟨Z,st,R,ok,w⟩:=hI55;obtain⟨d,e,q⟩:=za9.mp w;unfold own? at e;cases hs:Z[i]? with
 | none=>rw[hs] at e;cases e
 | some s=>
   rw[hs] at e;have z:=R.slot i s hs;cases s with
   | no=>cases e
   | hnd=>cases e
   | bor d'=>
     have e:(if d'.imm=true then some d' else none)=some d:=e;split at e
     ·rename_i m
      cases e;obtain⟨v,e1,i1⟩:=z;exact{v,ze1 e1,q v H Ext.refl ok (Is.ofImm m i1)}
     ·cases e
   | own d'=>
     have e:(if d'.flat=true then some d' else none)=some d:=e;split at e
     ·rename_i m
      cases e;obtain⟨a,e1,n,f,t⟩:=z;have tt:Is c.K (λb=>¬W.mv b) H d (.ref a):=(t.mono (A':=λb=>¬W.mv b) {λ_ _ z _=>z,λb o a z=>⟨a.1,z⟩} λo z=>z).isTop n.1;exact{_,ze1 e1,q _ H Ext.refl ok (yo1 tt m ⟨n.1,f⟩)}
     ·cases e
open H in
def va1{x1}(h:DNs X c es f):DN X c (.Tuple es x1 pos) (fA S vu1 f):=(wi2 h).imp λY H Q hI56=>by
 obtain⟨Z,st,R,ok,w⟩:=hI56;refine{Z,st,R,ok,za6 (za2.mp w) (λl st1 q vs H1 e ok1 z=>?_) λx st1 q=>q};obtain⟨d,e1,q⟩:=za9.mp q;unfold vu1 at e1;split at e1
 ·rename_i h
  cases e1;exact{by rw[<-z.length];exact h,λp hp=>q _ _ (e.trans (Ext.laid hp)) (zd9 ok1 hp) (Is.tup zb3 (z.ext (Ext.laid hp) ok1 λb n=>n.1))}
 ·cases e1
instance vy3(S:Type)(f:Fn S):FnS S:=λZ st=>(f Z st).bind λd st1=>.ok (.rt d) st1
def wr0(h:DN X c e f):DS X c (.Return (some e) pos) (vy3 S f):=
 (yi5 h).imp λD Y H ⟨Z,st,R,ok,w⟩=>{Z,st,R,ok,za6 (za2.mp w) (λd st1 q v H1 e ok1 z=>q v H1 (e.f0 R) ok1 z) λx st1 q H1 e ok1=>q H1 (e.f0 R) ok1}
section
variable{Q:D->S->Prop}{QF:Fl->S->Prop}{E:Exn->S->Prop}{Z:Rho}{st:S}{f:Fn S}{i:Nat}
def xn0:wpR (uk3 S i Z st) Q E↔∃d,own? Z i=some d/\Q d st:=za9
def xb4:wpR (vy3 S f Z st) QF E↔wpR (f Z st) (λd st1=>QF (.rt d) st1) E:=za2
end
end
theorem ln1{α:Type}{us:List α}(h:us.length=1):∃a,us=[a]:=by
 match us,h with
 | [a],_=>exact⟨a,rfl⟩
theorem ln2{α:Type}{us:List α}(h:us.length=2):∃a b,us=[a,b]:=by
 match us,h with
 | [a,b],_=>exact⟨a,b,rfl⟩
theorem ln3{α:Type}{us:List α}(h:us.length=3):∃a b c,us=[a,b,c]:=by
 match us,h with
 | [a,b,c],_=>exact⟨a,b,c,rfl⟩
theorem ln4{α:Type}{us:List α}(h:us.length=4):∃a b c d,us=[a,b,c,d]:=by
 match us,h with
 | [a,b,c,d],_=>exact⟨a,b,c,d,rfl⟩
theorem ln5{α:Type}{us:List α}(h:us.length=5):∃a b c d e,us=[a,b,c,d,e]:=by
 match us,h with
 | [a,b,c,d,e],_=>exact⟨a,b,c,d,e,rfl⟩
instance At(K:PySem.W.Frag)(x:Str)(st:Stmt):Prop:=∃f fd,nsIn K mainGlobals x=some (some (.ref f))/\Fun K x x st f fd
instance uc3(x:Str)(st:Stmt)(ps:List Str):Prop:=∀(kV doc pm:Value) (an:Option Addr) (cdv ct:Value) (us:List Value),us.length=ps.length->bindArgs (fnOf x x (zu8 st) (zb8 st) (za3 st) .none kV doc pm an cdv ct) {us,[]}=pure (ps.zip us)
section
variable{K:PySem.W.Frag}{h:Heap}{mg:Str->Option Value}{x:Str}{st:Stmt}{N ps:List Str}{k j:Nat}{P:Program}{w:World}{base:Heap}{sp:Sp}
def zb9.up(C:zb9 P w K mg base k x ps sp)(hk:autoParam (k<=j) uD):zb9 P w K mg base j x ps sp:=by
 obtain⟨f,fd,a,b,c,d⟩:=C.ex;exact{f,fd,a,b,c,d.mono hk}
def vk1(P:Program)(w:World)(base:Heap)(X:K.In h)(G:h.Ns mainGlobals mg){B:FnS Unit}(a:At K x st)(S:zc2 N ps (za3 st))(hb:∀(f:Addr) (cdv:Value) (A:Around) (outer:List Env) (s:Shared) (H:Hp) (E:XK),vd5 k (A.deeper (envOfC x (za3 st) s.heap.objs.size f cdv))->DSs (vf7 CX0 P w K mg base N x (za3 st) f cdv A outer s H E).nox (cx0 K H) (zb8 st) B)(bd:uc3 x st ps:=by (intro _ _ _ _ _ _ us hl;first | (obtain⟨_,rfl⟩:=ln1 hl;rfl) | (obtain⟨_,_,rfl⟩:=ln2 hl;rfl) | (obtain⟨_,_,_,rfl⟩:=ln3 hl;rfl) | (obtain⟨_,_,_,_,rfl⟩:=ln4 hl;rfl) | (obtain⟨_,_,_,_,_,rfl⟩:=ln5 hl;rfl))) :
 zb9 P w K mg base (k+1) x ps (sp0 K (dfn N.length ps.length B)):=by
 obtain⟨f,fd,n,F⟩:=a;exact{f,fd,mg_of X G n,F.kp,F.binds bd,Fun.d0 F S λcdv A outer s H E hr=>hb f cdv A outer s H E hr}
def ua4{Sx:Type}{W:Wd Sx}(P:Program)(w:World)(base:Heap)(X:K.In h)(G:h.Ns mainGlobals mg){B:FnS Sx}(a:At K x st)(S:zc2 N ps (za3 st))(hb:∀(f:Addr) (cdv:Value) (A:Around) (outer:List Env) (s:Shared) (H:Hp) (E:XK),vd5 k (A.deeper (envOfC x (za3 st) s.heap.objs.size f cdv))->DSs (vf7 CX0 P w K mg base N x (za3 st) f cdv A outer s H E).nox (cxS W K H) (zb8 st) B)(bd:uc3 x st ps:=by (intro _ _ _ _ _ _ us hl;first | (obtain⟨_,rfl⟩:=ln1 hl;rfl) | (obtain⟨_,_,rfl⟩:=ln2 hl;rfl) | (obtain⟨_,_,_,rfl⟩:=ln3 hl;rfl) | (obtain⟨_,_,_,_,rfl⟩:=ln4 hl;rfl) | (obtain⟨_,_,_,_,_,rfl⟩:=ln5 hl;rfl))) :
 zb9 P w K mg base (k+1) x ps (spS W K (vp8 N.length ps.length B)):=by
 obtain⟨f,fd,n,F⟩:=a;exact{f,fd,mg_of X G n,F.kp,F.binds bd,Fun.dS F S λcdv A outer s H E hr=>hb f cdv A outer s H E hr}
def ui1(P:Program)(w:World)(base:Heap)(X:K.In h)(G:h.Ns mainGlobals mg)(a:At K x st)(ok:∀f fd,Fun K x x st f fd->vk3 P w K mg base CX0 k f fd ps sp)(bd:uc3 x st ps:=by (intro _ _ _ _ _ _ us hl;first | (obtain⟨_,rfl⟩:=ln1 hl;rfl) | (obtain⟨_,_,rfl⟩:=ln2 hl;rfl) | (obtain⟨_,_,_,rfl⟩:=ln3 hl;rfl) | (obtain⟨_,_,_,_,rfl⟩:=ln4 hl;rfl) | (obtain⟨_,_,_,_,_,rfl⟩:=ln5 hl;rfl))):zb9 P w K mg base k x ps sp:=by
 obtain⟨f,fd,n,F⟩:=a;exact{f,fd,mg_of X G n,F.kp,F.binds bd,ok f fd F}
def uo0{Sx:Type}{W:Wd Sx}(P:Program)(w:World)(base:Heap)(X:K.In h)(G:h.Ns mainGlobals mg){B:FnS Sx}(a:At K x st)(S:zc2 N ps (za3 st))(hb:∀(f:Addr) (cdv:Value) (A:Around) (outer:List Env) (s:Shared) (H:Hp) (E:XK),vd5 k (A.deeper (envOfC x (za3 st) s.heap.objs.size f cdv))->DSs (vf7 CX0 P w K mg base N x (za3 st) f cdv A outer s H E).nox (cxS W K H) (zb8 st) B)(bd:uc3 x st ps:=by (intro _ _ _ _ _ _ us hl;first | (obtain⟨_,rfl⟩:=ln1 hl;rfl) | (obtain⟨_,_,rfl⟩:=ln2 hl;rfl) | (obtain⟨_,_,_,rfl⟩:=ln3 hl;rfl) | (obtain⟨_,_,_,_,rfl⟩:=ln4 hl;rfl) | (obtain⟨_,_,_,_,_,rfl⟩:=ln5 hl;rfl))) :
 zb9 P w K mg base (k+1) x ps (spL W K (vw3 N.length ps.length B)):=by
 obtain⟨f,fd,n,F⟩:=a;exact{f,fd,mg_of X G n,F.kp,F.binds bd,Fun.dL F S λcdv A outer s H E hr=>hb f cdv A outer s H E hr}
end
end L2
section
open L2
local macro_rules
 | `(tactic| simp?! [$ls,*])=>do
   let x:=("wp_ok wp_bad wp_some wp_none wp_sNil wp_sSet wp_sSetB wp_sAsg wp_sPar wp_sIf wp_sRet wp_sRetV wp_sDrop wp_sMt wp_sBad wp_sAug wp_fC wp_fVk wp_f2 wp_fA wp_aNil wp_aCons wp_fCall wp_fCallS wp_fAndV wp_fNotV wp_fIfE wp_fNeg wp_fCut wp_pNo wp_pSo wp_iSeq wp_iArgs wp_fComp wp_fB wp_fAnd wp_fOr wp_fNot wp_fTrue wp_sPar3 wp_sItem wp_sDPut wp_fChain wp_fDisp wp_sTab2 wp_fGet wp_sFor wp_fP wp_aP wp_tP own? frz frz1 pickR gN gT gsCons gsNil D.seq? D.immL flat_lst flat_dct flat_int flat_str flat_bl flat_non flat_tup imm_int imm_str imm_bl imm_non imm_tup rho0 rhoS rhoL g0 gS s0 sS lC lN rd putN put im kp vr cn o2 cs nl o1 ti tb boS dbb rl0_ rl1_ rl2_ rl3_ rl4_ rl5_ rl6_ rl7_ rl8_ rl9_".splitOn " ").toArray.map λn=>Lean.mkIdent n.toName
   `(tactic| try simp only[$[$x:term],*,EV_,Nat.reduceAdd,Nat.reduceLT,Nat.reduceLeDiff,Nat.reduceSub,reduceIte,$ls,*])
local macro_rules
 | `(tactic| simp_all!)=>do
   let a:=Lean.mkIdent `hN_
   `(tactic| ((try with_reducible refine $a _ _ ?_);with_reducible refine wk6 fun $(Lean.mkIdent `P_) $a $(Lean.mkIdent `hR_) $(Lean.mkIdent `hB_) $(Lean.mkIdent `hC_)=>?_))
 | `(tactic| simp!)=>`(tactic| simp! [wp_ok])
 | `(tactic| simp! [$ls,*])=>do
   let a:=Lean.mkIdent `hN_
   `(tactic| ((try with_reducible refine $a _ _ ?_);simp?! [$ls,*];(repeat (first | with_reducible refine $a _ _ ?_ | with_reducible refine $(Lean.mkIdent `hR_) _ _ ?_ | with_reducible refine $(Lean.mkIdent `hB_) _ _ ?_ | with_reducible refine $(Lean.mkIdent `hC_) _ _ ?_));simp?! [$ls,*]))
namespace K22
open L2
instance top(i:Nat):Stmt:=PySem.Challenge.pw_slidehall_k22_layers_walked.main.body.getD i (.Pass {0,0,0,0})
structure Cst(K:PySem.W.Frag)(mg:Str->Option Value):Prop where
 ok:True
 WALL:∃t,mg "WALL" = some (.int (-1) t)
 STRONG:∃t,mg "STRONG" = some (.int (1) t)
 DULL:∃t,mg "DULL" = some (.int (-1) t)
 STEPS:∃a0,mg "STEPS" = some (.ref a0)/\ui4 K a0 [(1,0),(0,1),(-1,0),(0,-1)]
 MOST_STANDS:∃t,mg "MOST_STANDS" = some (.int (2000) t)
noncomputable abbrev zz1:Stmt:=top 31
noncomputable abbrev yt0:List Str:=["_law_script","_law_cells"]
def zo7:zc2 yt0 ["_law_script"] (za3 zz1):=by and_intros
noncomputable abbrev yd2:Stmt:=top 32
noncomputable abbrev yy6:List Str:=["_law_state","_law_many","_law_turn","_law_place","_law_cell","_law_digit","_law_mixed"]
def zf4:zc2 yy6 ["_law_state","_law_many"] (za3 yd2):=by and_intros
section
variable{P:Program}{w:World}{K:PySem.W.Frag}{mg:Str->Option Value}{base:Heap}
def wd7(F:Fun K "_law_begin" "_law_begin" zz1 f fd)(hm:Bn mg):vk3 P w K mg base CX0 1 f fd ["_law_script"] (yx2 K):=by
 refine F.ok zo7 (λvs H Q E h=>?_) (λcdv A outer s H vs Q E hr h=>?_)
 ·obtain⟨a,ns,rfl,_⟩:=h;rfl
 ·obtain⟨a,ns,rfl,hS,h63,q⟩:=h
  have hcut:vp9 (ns.map V.int) none (some 63)=ns.map V.int:=ui0 h63;refine{_,zg9 (zr2 (i:=1) zo7.nd rfl (Or.inl rfl) (ys1 ya3 (by rfl) hm.list boot_list (zf6 (xd5 xo4 (pv 0) xq5 (xq4 zi4)) zn8))) (zg9 (vt6 (yx9 (zg7 hr) (pv 1) (xr0 zn8) (wi4 _)) (yd4 (zr2 (i:=1) zo7.nd rfl (Or.inl rfl) (xr0 (zf6 zi4 zn8)))) yy0) (yd4 (yi5 (xr2 (yb4 zw0 (pv 1) (yb4 zw0 zi4 yy2)) rfl rfl 'd' (by show 2<=15;decide))))),?_};refine{.ref a,rfl,63,rfl,a,_,rfl,hS,λp1 hp1=>?_};rw[hcut];refine{p1,_,rfl,.inl (.of zb3),λp2 hp2=>?_};have n12:p1≠p2:=zb5 zb3 hp2;have s2:vk5 H (upd (upd H p1 (.lst (ns.map V.int))) p2 (.lst (ns.map V.int))):=λb o e=>by
   have b1:b≠p1:=zb5 e hp1;have b2:b≠p2:=λz=>by subst z;rw[za8 b1,e] at hp2;cases hp2
   rw[za8 b2,za8 b1];exact e
  refine{_,rfl,(by show 0<=sizeLine;decide),λp3 hp3=>?_};have n23:p2≠p3:=zb5 zb3 hp3;refine{λ_=>True,.lst (ns.map D.int),.lst [],ns.isEmpty,?_,?_,?_,?_,?_}
  ·exact Is.lst trivial (by rw[za8 n23];exact zb3) (xw4 ns)
  ·exact Is.lst trivial zb3 (IsL.nil.mpr rfl)
  ·exact we8 ns
  ·cases ns<;>rfl
  have fin:∀(H3:Hp) (q2:Addr) (xs:List Int),vk5 H H3->H q2=none->H3 q2=some (.lst (xs.map V.int))->xs=zp8 ns->
   vy0 [(λ_ H Q=>Q (.str "cells") H,vj0 1),(λ_ H Q=>Q (.str "turn") H,λ_ H Q=>Q (.int 0) H)] [some (.ref a),some (.ref q2)] H3 Q:=λH3 q2 xs sm hn hl ex=>by
   intro r hr';have nr:q2≠r:=zb5 hl hr';refine{_,rfl,zb3,[(Sum.inr "cells",.ref q2),(Sum.inr "turn",.int 0)],rfl,(by show 2<=15;decide),?_};refine q r q2 _ (λb o e=>?_) ?_ ?_ ?_ ?_
   ·have br:b≠r:=zb5 (sm b o e) hr'
    rw[za8 br,za8 br];exact sm b o e
   ·cases z:H r with
    | none=>rfl
    | some o=>rw[sm r o z] at hr';cases hr'
   ·exact hn
   ·rw[zb3];exact congrArg (λz=>some (HO.dK z)) wx4
   ·rw[za8 nr,za8 nr,hl,ex]
  have g2:H p2=none:=by
   cases z:H p2 with
   | none=>rfl
   | some o=>
     have b1:p2≠p1:=n12.symm;rw[za8 b1,z] at hp2;cases hp2
  cases ns with
  | nil=>
    refine{_,rfl,vz4 ?_};refine{(by show 1<=sizeLine;decide),λp4 hp4=>?_};have s3:vk5 H (upd (upd (upd (upd H p1 (.lst [])) p2 (.lst [])) p3 (.lst [])) p4 (.lst [.int 7])):=λb o e=>by
     have z2:=s2 b o e;have b3:b≠p3:=zb5 z2 hp3;have b4:b≠p4:=λz=>by subst z;rw[za8 b3,z2] at hp4;cases hp4
     rw[za8 b4,za8 b3];exact z2
    refine fin _ p4 [7] s3 ?_ zb3 rfl;cases z:H p4 with
    | none=>rfl
    | some o=>
      have z2:=s2 p4 o z;have b3:p4≠p3:=zb5 z2 hp3;rw[za8 b3,z2] at hp4;cases hp4
  | cons n0 ns=>
    refine{_,rfl,ub7 ?_};have s3:vk5 H (upd (upd (upd H p1 (.lst ((n0::ns).map V.int))) p2 (.lst ((n0::ns).map V.int))) p3 (.lst [])):=λb o e=>by
     have z2:=s2 b o e;have b3:b≠p3:=zb5 z2 hp3;rw[za8 b3];exact z2
    exact fin _ p2 (n0::ns) s3 g2 (by rw[za8 n23];exact zb3) rfl
open H in
def wo5(F:Fun K "_law_take" "_law_take" yd2 f fd)(hlen:mg "len" = none)(hdm:mg "divmod" = none):vk3 P w K mg base CX0 1 f fd ["_law_state","_law_many"] (spS (WdS p l) K vg3):=by
 refine F.ok zf4 (λvs H Q E h=>?_) (λcdv A outer s H vs Q E hr h=>?_)
 ·obtain⟨ds,us,st,rfl,i,ok,w⟩:=h
  unfold vg3 at w;split at w
  ·rw[Ax0,<-i.length];rfl
  ·exact w.elim
 ·obtain⟨ds,us,st,rfl,i,ok,w⟩:=h
  unfold vg3 at w;split at w
  ·rename_i many
   split at w
   ·rename_i hb
    obtain⟨v,r,ev,i1,i2⟩:=IsL.cons.mp i;rw[IsL.nil.mp i2,Is.int_iff.mp i1] at ev;subst ev;have hu:=vf6 hr;obtain⟨hp,hl,hne,h63,h0⟩:=id ok;have npl:p≠l:=vp2 hp hl (by intro z;cases z);refine{_,zg9 (zr2 (i:=2) zf4.nd rfl (Or.inl rfl) (vf5 ys5 (zy2 hu (pv 0) zw0 (λ_ _=>rfl)) zi4)) (zg9 (yy1 hu (pv 0) zw0 (pv 2) rfl) (zg9 (zr2 (i:=3) zf4.nd rfl (Or.inl rfl) (vf5 zw2 (pv 2) (zw1 zd4 (by rfl) hlen PySem.boot_len (zf6 (zy2 hu (pv 0) zw0 (λ_ _=>rfl)) zn8)))) (zg9 (zr2 (i:=4) zf4.nd rfl (Or.inl rfl) (vt7 xv8 (zy2 hu (pv 0) zw0 (λ_ _=>rfl)) (pv 3) (λ_ _=>rfl))) (zg9 (vt6 (yx9 uf1 (pv 4) (vf5 ww4 zi4 zi4) (wi4 _)) (zg9 (xd1 (zw1 xa6 (by rfl) hdm boot_divmod (zf6 (pv 4) (zf6 (pv 1) zn8))) (xq9 (n:=2) rfl (zv9 (wi1 (zy2 hu (pv 0) zw0 (λ_ _=>rfl)) (pv 3) xc6) (zv9 (ym4 (i:=5) zf4.nd rfl (Or.inl rfl)) yy3)))) (yd4 (yi5 (pv 5)))) yy0) (zg9 (zr2 (i:=6) zf4.nd rfl (Or.inl rfl) (vf5 zw2 (vf5 yd7 (vf5 ys5 (vf5 ys5 (vf5 zw2 (pv 4) zi4) (vf5 yd7 (vf5 yd7 (pv 2) (pv 2)) zi4)) zi4) zi4) zi4)) (zg9 (zr2 (i:=6) zf4.nd rfl (Or.inl rfl) (vf5 zw2 (vf5 yd7 (pv 6) (pv 6)) zi4)) (yd4 (yi5 (vf5 zw2 (vf5 xr7 (vf5 zw2 (vf5 yd7 (vf5 ys5 (pv 6) (vf5 yd7 (pv 2) zi4)) zi4) zi4) zi4) (pv 1)))))))))),?_};have n0:(0:Int)<(st.1.length:Int):=by
     have:st.1.length≠0:=λz=>hne (Cv0.mp z)
     omega
    have pl0:0<=(st.2+1) % (st.1.length:Int):=Int.emod_nonneg _ 'o';have pl1:(st.2+1) % (st.1.length:Int)<(st.1.length:Int):=Int.emod_lt_of_pos _ n0;have ple:((plc st:Nat):Int)=(st.2+1) % (st.1.length:Int):=Int.toNat_of_nonneg pl0;have plt:plc st<st.1.length:=by omega
    have cel:(st.1.map V.int)[plc st]?=some (.int (st.1.getD (plc st) 0)):=by
     rw[Af0,Ad0 plt,Cc0,Ad0 plt];rfl
    have H1p:∀o,(upd H p o) l=some (.lst (st.1.map V.int)):=λo=>by rw[za8 npl.symm];exact hl
    have g0:vi2 H p (.str "turn") (some (.int st.2)):=by
     have q:=vi2.k (k:=(Sum.inr "turn" : Key)) hp;rw[xn9] at q;exact q
    have p0:vq3 H p (.str "turn") (.int (st.2+1)) (upd H p (.dK (stD l (st.2+1)))):=by
     have q:=vq3.k (k:=(Sum.inr "turn" : Key)) (v:=.int (st.2+1)) hp (by show 2<sizeLine;decide);rw[wu5] at q;exact q
    have gc:∀{H2:Hp},H2 p=some (.dK (stD l (st.2+1)))->vi2 H2 p (.str "cells") (some (.ref l)):=λ{H2} e=>by
     have q:=vi2.k (k:=(Sum.inr "cells" : Key)) e;rw[wc3] at q;exact q
    have lenI:(((st.1.map V.int).length:Nat):Int)=(st.1.length:Int):=by rw[Aa0]
    -- turn,its store,the place
    refine{_,rfl,p,.int st.2,rfl,g0,st.2,1,rfl,rfl,_,rfl,_,rfl,p,_,rfl,p0,?_};refine{_,rfl,_,rfl,p,.ref l,rfl,gc zb3,l,_,rfl,.inl (SqL.of (H1p _)),st.2+1,_,rfl,rfl,by rw[lenI];exact n0,?_}
    -- the cell
    refine{_,rfl,p,.ref l,rfl,gc zb3,_,rfl,l,_,_,.int (st.1.getD (plc st) 0),rfl,rfl,SqL.of (H1p _),by rw[lenI,<-ple];exact xa8 cel,?_};refine{_,rfl,10,18,rfl,rfl,{'z','z','z'},st.1.getD (plc st) 0,_,rfl,rfl,_,rfl,?_};have e18:((10:Int) ^ (18:Int).toNat)=1000000000000000000:=by decide
    by_cases hc:1000000000000000000<=st.1.getD (plc st) 0
    ·rw[if_pos hc] at w
     rw[e18,Ap1 hc];refine vz4 ?_;refine{_,rfl,_,rfl,st.1.getD (plc st) 0,many,rfl,⟨hb.1,hb.2.1⟩,λq hq=>?_};have qp:p≠q:=zb5 zb3 hq;have ql:l≠q:=zb5 (H1p _) hq;refine{q,_,rfl,SqT.of zb3,rfl,_,_,rfl,_,rfl,p,.ref l,rfl,gc (by rw[za8 qp];exact zb3),_,rfl,l,_,_,plc st,rfl,rfl,by rw[za8 ql];exact H1p _,?_,_,_,rfl,rfl,?_}
     ·rw[lenI,<-ple]
      unfold ixN;rw[if_pos 'o',if_pos (by rw[Aa0];omega)];simp
     ·refine{_,rfl,w _ _ (λb o hb' nm=>?_) {?_,?_,?_,?_,?_} (Is.int_iff.mpr rfl)}
      ·have b1:b≠p:=λz=>nm (.inl z)
       have b2:b≠l:=λz=>nm (.inr z)
       have b3:b≠q:=λz=>by
        subst z;rw[za8 b1,hb'] at hq;cases hq
       rw[za8 b2,za8 b3,za8 b1];exact hb'
      ·rw[za8 npl,za8 qp];exact zb3
      ·rw[zb3]
       congr 2;rw[List.map_set]
      ·intro z
       have:=congrArg List.length z;rw[Bx0] at this;exact hne (Cv0.mp this)
      ·show (st.1.set _ _).length<=63
       rw[Bx0];exact h63
      ·show 0<=st.2+1
       omega
    ·rw[if_neg hc] at w
     rw[e18,Ao1 hc];refine ub7 ?_;have tb:-(2 ^ 64)<st.2+1/\st.2+1<2 ^ 64:={'o','o'};have big:∀(j:Int),-(2 ^ 64)<j/\j<2 ^ 64->∀i:Int,vo0 i j:=λj h i=>.inr h
     refine{_,rfl,st.1.getD (plc st) 0,2147483629,rfl,rfl,(by show (0:Int)<2147483629;decide),_,rfl,_,rfl,_,_,rfl,rfl,.inl tb,_,_,rfl,rfl,big _ {'z','z'} _,_,_,rfl,rfl,_,_,rfl,rfl,_,_,rfl,rfl,big _ {'z','z'} _,_,_,rfl,rfl,(by show (0:Int)<2147483647;decide),?_};have m0:0<=vw8 (st.1.getD (plc st) 0) (st.2+1):=Int.emod_nonneg _ 'z';have m1:vw8 (st.1.getD (plc st) 0) (st.2+1)<2147483647:=Int.emod_lt_of_pos _ 'z';refine{_,rfl,_,rfl,vw8 (st.1.getD (plc st) 0) (st.2+1),vw8 (st.1.getD (plc st) 0) (st.2+1),rfl,rfl,.inl {'o','o'},_,_,rfl,rfl,(by show (0:Int)<2147483587;decide),?_};refine{_,rfl,_,rfl,st.2+1,104729,rfl,rfl,big _ {'z','z'} _,uj9 (st.1.getD (plc st) 0) (st.2+1),_,rfl,rfl,_,39373,rfl,rfl,big _ {'z','z'} _,_,2147483629,rfl,rfl,(by show (0:Int)<2147483629;decide),_,64,rfl,rfl,{'z','z'},_,rfl,uj8 (st.1.getD (plc st) 0) (st.2+1),many,rfl,rfl,hb.1,?_};refine w _ _ (λb o hb' nm=>?_) {zb3,H1p _,hne,h63,by show 0<=st.2+1;omega} (Is.int_iff.mpr rfl);rw[za8 (λz=>nm (.inl z))];exact hb'
   ·exact w.elim
  ·exact w.elim
end
set_option hygiene false
open Lean in
def mT:="A0rfl #3 #4 #6 #1 A0za5 ? #2 #5 =20' A0za1 X =200 #0 =ȗ0x =ȓ0I #7 @2.nd =Ț0) Q00 =50. =20* A0hr =ț0x =V0- =20$ =20+ =70ŗ =ȴ19 =ǀ0Ʋ =T0R =S1- [1 #8 =Ĵ0- =?0õ =20& =Ⱦ09 A1pv A1some =20% A0ze2 =Ȱ0# !i =Ș0# =20D [2 =ƻ1O =Ǝ02 =Ó1Ó =ȶ09 A1gL_ =ɬ1# =Ó17 =ƞ1- =î0E #9 - [4 A0none =Á0/ =Ȳ0# =f1> =?0ŏ A2vs1 =203 =ŧ1. =Ȭ0) =N0+ '_law_cell A0vi5 =Á08 A1gU_ A0zn1 A2vv7 @5 =ʁ1ʂ =É0r =ŀ0B =ȿ0I =ï2B =ʃ0k A1zs1 #10 =20ò .R [0 =ɯ0# =û2- =ʌ1# =Ó1> =Ȣ0# =A3A =`1( =f17 =Ű0Ê A0hm.tuple A0boot_tuple A0hm.list A0boot_list 'end =ɀ0# =ȥ01 [3 =Ĵ0E =ā0& =ȵ3# =Â0ļ R1 =Ŏ1' #13 =Ȗ0) =ǅ3/ A0vp1 =r0' =X1Ċ =ǆ0_ =ʓ1ʔ =ę00 =è0É =ʙ0H =ɵ2ń =a0ļ =ĺ2/ =ć1B A1DW.dt =Ã1i =Q0^ =Ū0ɥ =Ú0Q =ƈ0' =S1B =ý1Ĕ =Ŵ1Ǉ =ħ2Ǉ =Ŧ1( =ʚ1- =Ţ1Z =ñ0õ =S1S A0zs2 =Ŏ10 #12 #14 A1g2_ @3 =Ư1ʦ =T1R =ʣ2ń =Ɵ0z =Ŋ5k =ɰ0Ŧ =A0* =ē0y =ǆ0` =ʫ1ʬ Q21 !j A1xg5 =ɦ0ō =A0D =á0ʉ @6 A2vl3 =ƛ1ʲ =ʸ0# =ɷ0I =ƻ1ǃ A0PassesOwn.never =F0ņ =Ã3l A0xd6 A0xd7 A1yo6 =ʠ3Ƶ =Ƚ1Č =ƽ14 =I0$ =ʪ1Ł =ç1% =s1% =ƽ1Ƀ =ķ1Ý =ʥ0^ =Ú0Ë A;xg6 =ʰ0ǉ A2yc1 =ʮ0ʯ =÷3T =ʈ0ă =u0ʱ =Ĵ0Ĵ =ĩ0ĩ =ʡ0ǉ =Ŵ1Ŵ =ʟ1E =ş0L A0hm.int A0boot_int =ʹ1- Q02 A2vq1 =Ģ0ŭ =ı0ą =a1ð =20[ =ô0ʺ =ş0( !gc A0vt9 =.0Ʊ =ɻ14 A0hm.enumerate =ô0ư A0zw2 =ǀ0U A1yd6 A3yo8 =ɪ0Ś =ƾ0Ƙ A0zg2 =ʋ0# =ų0Ĕ A0zj2 =ȡ0N =ï00 'many 'n 'direction =ũ3ä 'push A0vu0 =ɢ0x =ȯ19 @4 A2vw1 =ʍ0# =ʊ0ĭ A0hm.min A0boot_min A@xa0 !k A1zd2 =ř0ř =Į0( !N' !ixs =ɋ0Ɍ A0yg9 A0xz8 A2vd3 A0hm.dict A0boot_dict =ʇ0# #11 #15 A1yp5 =Ʉ0# R2 A2ug5 =Ŀ6ɶ =ɕ0ɖ .list .tuple =ǅ3, '_law_one '_law_other A1gT_ =ƾ0Î =ɍ3Ƅ A2zc6 A2ze4 =ô0ǁ A:xh3 'j 'x 'i 'y A0xh1 A0cs.WALL Q03 'other 'going =ɇ0Ɉ =Ń1Ń A5xy4 A0wj6 A0hm.len A0PySem.boot_len A0cs.MOST_STANDS A2ua3 =ç00 A1ya1 A1xh9 A3xh2 A2xg7 A1wj7 A2vc3 '_law_j '_law_i '_law_place Q04 =ĥ0ĥ A1xy8 A<xy3 '_law_state '_law_broad =Ɋ3# =ɴ0# @7 A2yv4 '_law_taken #16 A2vq2 =ý1ĸ '_law_x '_law_y '_law_gap '_law_shuts .dict '_law_name '_law_found '_law_due A0zp3 A1xi1 A0hm.all A0boot_all .str A0hm.str A0boot_str =ʕ01 =ɺ01 A2yg1 =ɉ09 A1yk6 A0xi0 A0hm.sorted A0boot_sorted A0yg8 A0xz7 =Ų1ɤ =Ȟ0N =.0Ņ =Ȝ1. =ƺ2O A1gA_ =ű0B =Ã1M =ɂ01 =ƀ0* =ɣ0# =ɟ0N =ɠ0ɡ =ć1- A0zu3 A0vj8 A0zz4 =ƙ0Z A4wr7 A?wq8 !tbl !a0 A0cs.STEPS A8vb0 Q45 A0cs.DULL A0cs.STRONG A6va0 A0wy8 A0xa5 A1xz5 A0ya3 A1ws2 A6xl8 Q16 A2xd1 A0hv A3wi1 A0hk A0xc6 A0wo3 A0wo7 A3wf8 A4wr8 A4xy1 A5wr1 A2wr2 A<wq9 A0D4 A1wr0 A1va1 A0wr5 A2yp7 A0xz6 A;wr9 A0wr6 Q07 A2un4 A2va8 A2yh0 A1wz0 A0ws4 A5vb1 A1wg3 A0hm.any A0boot_any A0xr7 A0yp6 A1wg2 A1ww5 A3va2 A0hm.zip .int A2va6 .bool A0hm.bool A0boot_bool A3wf7 A5wz9 A7vw4 A0xv7 A1ww9 @8 @9 A5xy2 A1ws3 @: A5vb2 A0wr4 A2wr3 A1za0 A2za4 =ŧ0Ȕ =ȕ1) !ga A1Or.inl A1za7 =Ð0ș !gb R3 A4zb4 =ȝ2# A5zc3 =ȟ2# =Ƞ14 Q18 A7zc8 =ȣ6# =Ȥ1: A0zc5 =.0Ȧ =Ƽ3ȧ A3vc9 =Ȩ0ȩ =Ȫ2) =ȫ1) A5zb7 =ȭ3I =Ȯ2# A1zd5 A4gX_ =ȱ3~ A4zc7 =ȳ2# A6vd9 A1zg7 =Ƽ2. A6zh8 =ȷ0ȸ =ȹ5) =Ⱥ4) =Ȼ3) =ȼ2# A1vf6 A1zf7 A2zk6 A6vg1 =Ɂ1: Q19 A3gP_ A4zo2 =Ʌ2# =Ɇ1# !n A1zn9 A6vh7 Q1: Q3; =ƿ4ƅ A3zl7.scope =Ɏ2ƒ !osc =ɏ1ɐ A1za3 =ɑ1ɒ @0 =ɓ1ɔ !N A9zf0 =ɗ71 =ɘ4# A0hm.isinstance =ə3ɚ =ɛ2# A8vh9 =ɝ7# =ɞ5I A1gI_ =ɜ1# !g A1Or.inr A0zd4 @1 A2zu2 A7zn2 =ɧ6Ŝ =ɨ4# =ɩ1ś A1zx7 =ƹ1ɫ A3zh9 A0hm.range =ɭ1ɮ A2vr4 A2vr3 A3gp_ =ɱ0ɲ =ɳ1( =ǂ0Ɓ A0zr9 A1zs0 A7ya0 =ɸ6# =ɹ1: =ƺ2ǃ A0PySem.F.type_list_append =Ǆ4ɼ A0PySem.F.slot_list_append =ɽ3ɾ A0zl5 =ɿ2ʀ A0zk3 A2vv8 A2vm0 A1yf9 A4gY_ =ʆ3~ A1gB_ =ʄ1ʅ A1zt5 A1zt4 A2zt3 A1zo3 A0PySem.F.type_list_extend =Ǆ4ʎ A0PySem.F.slot_list_extend =ʏ3ʐ A0zr6 =ʑ2ʒ A0zr5 A3yv7 A6yg0 =ʖ3: =ʗ21 =ʘ1I A2vz5 =ű4Ŕ =ʛ3œ =ʜ2Œ =ʝ1ő =ʞ0S =ƿ4ƶ =ǁ1ǈ =ǂ0ų =ʢ1ų =Ë2J =ʤ1J A1xh0 =Ǌ0Ǌ =q4Å =ʨ3Ä =ʩ2ł =ŵ3( A0vz1 A0ym7 =ŵ1ʭ A0ym6 =ŵ1ǈ =ʧ0- A1yo5 A6yp1 =ʳ5~ =ʴ3G =ʵ2H =ʶ1: A1xd8 A2uc0 =ʷ01".splitOn " "|>.map String.toList|>.toArray
open Lean in
def mQ(a:Nat->Term):Nat->MacroM Term
  |0=>`(by decide)
  |1=>`(($(a 0), $(a 1)))
  |2=>`(_)
  |3=>`(-1)
  |4=>`(by decide +kernel)
  |5=>`(⟨ $(a 0), $(a 1), $(a 2), $(a 3)⟩)
  |6=>`(λhk hv=> $(a 0))
  |7=>`(by simp)
  |8=>`(λ_ _=> $(a 0))
  |9=>`(show (($(a 0)):List Str).Nodup by decide +kernel)
  |10=>`(λav cl C s H fp=> $(a 0))
  |_=>`(⟨ $(a 0), $(a 1), $(a 2)⟩)
open Lean in
def mA(I:Array Syntax):Nat->Char->List Syntax->Nat->MacroM (List Syntax×Nat)
  |0,_,s,n=>pure (s,n)
  |f+1,c,s,n=>do
   let c:=c.toNat
   let p (k:Nat)(t:Syntax):MacroM (List Syntax×Nat):=pure (t::s.drop k,n)
   let a (k:Nat):Term:=⟨s[k]!⟩
   let N (x:List Char):=mkIdent (String.ofList x).toName
   match mT[if c<127 then c-35 else c-100]! with
   |['=',a,i,b]=>do
    let i:=i.toNat-48
    let (r,n)←mA I f b (s.drop i) n
    mA I f a (s.take i++r) n
   |'A'::k::x=>
    let k:=k.toNat-48
    p k (Syntax.mkApp (N x) ((s.take k).map TSyntax.mk).toArray)
   |'.'::x=>p 0 (mkNode ``Parser.Term.dotIdent #[mkAtom ".",N x])
   |'@'::k::x=>p 0 (mkIdent (I[k.toNat-48]!.getId++(String.ofList (x.drop 1)).toName))
   |'#'::x=>p 0 (Syntax.mkNumLit (String.ofList x))
   |'\''::x=>p 0 (Syntax.mkStrLit (String.ofList x))
   |'!'::x=>p 1 (mkNode ``Parser.Term.namedArgument #[mkAtom "(",N x,mkAtom ":=",s[0]!,mkAtom ")"])
   |['[',k]=>do
    let k:=k.toNat-48
    let x:TSyntaxArray `term:=((s.take k).map TSyntax.mk).toArray
    p k (←`([$x,*]))
   |'?'::_=>do
    let h:=mkIdent (Name.mkSimple s!"q{n}")
    return ((←`(?$h:ident)).raw::s,n+1)
   |'X'::_=>do p 1 (←`(tactic|exact $(a 0)))
   |['R',k]=>do
    let mut t←`(tactic|refine' $(a 0))
    let mut i:=1
    for x in s[0]!.topDown do
     if x.isOfKind ``Parser.Term.syntheticHole then
      let h:Ident:=⟨x[1]⟩
      let y:TSyntax `tactic:=⟨s[i]!⟩
      t←`(tactic|($t:tactic;case $h:ident=>$y:tactic))
      i:=i+1
    p i t
   |['Q',k,j]=>do p (k.toNat-48) (←mQ a (j.toNat-48))
   |_=>Macro.throwUnsupported
local macro_rules
 |`(tactic|exact $s:str $x*)=>do
  let mut r:List Lean.Syntax×Nat:=([],0)
  for c in s.getString.toList.reverse do
   r←mA x 99 c r.1 r.2
  return r.1[0]!
local macro_rules
 |`(command|example($m:ident $s:ident $n:ident $c:ident):$h:str:=$b:str)=>do
  let L(x:String):=do
   let y:=((x.splitOn " ").filter (·≠"")).map λz=>(Lean.Syntax.mkStrLit z:Lean.Term)
   let y:=y.toArray
   `([$y,*])
  let I(x:String):=Lean.mkIdent x.toName
  let w:=h.getString.splitOn "/"
  let c0:=w[0]!.front
  let d:=c0 != 'U'
  let k:=Lean.Syntax.mkNumLit (String.ofList (w[0]!.toList.drop 1))
  let x:=Lean.Syntax.mkStrLit w[1]!
  let u←if d then `(Dr) else `(Unit)
  let e←if c0=='U' then `(cx0 K H) else if c0=='D' then `(cxS (WdS p l) K H) else `(cxS (WdS p l) K (λ_=>none))
  let y←if c0=='L' then `((zb8 $s).drop 1) else `(zb8 $s)
  let mut t←`(∀f cdv A outer s H E,vd5 k (A.deeper (envOfC $x (za3 $s) s.heap.objs.size f cdv))->DSs (vf7 CX0 P w K mg base $n $x (za3 $s) f cdv A outer s H E).nox $e $y B)
  let mut G:Array Lean.Ident:=#[]
  let mut C:Array Lean.Ident:=#[]
  for z in w.drop 4 do
   C:=C.push (I s!"C{C.size}")
   G:=G.push (I s!"G{G.size}")
  for (z,i) in ((w.drop 4).zipIdx).reverse do
   let v:=z.splitOn " "
   let g:=G[i]!
   let y←if z.front=='D' then `(spS (WdS p l) K $g) else `(sp0 K $g)
   let q:=C[i]!
   t←`(∀($q:ident:zb9 P w K mg base k $(Lean.Syntax.mkStrLit (String.ofList (v[0]!.toList.drop 1))) $(←L (" ".intercalate (v.drop 1))) $y),$t)
  t←`(∀(hm:Bn mg) (cs:Cst K mg) k,$t)
  t←if d then `(∀P w K mg base (p l:Addr),$t) else `(∀P w K mg base,$t)
  let p:=if d then #[I "p",I "l"] else #[]
  return Lean.mkNullNode #[←`(command|abbrev $s:ident:Stmt:=top $k),←`(command|abbrev $n:ident:List Str:=$(←L (w[2]!++" "++w[3]!))),←`(command|def $c:ident:zc2 $n $(←L w[2]!) (za3 $s):=by and_intros),
   ←`(command|def $m:ident $[($G)]* :{B:FnS $u//$t}:=by
    refine⟨?B,?h⟩
    case h=>
     intro P w K mg base $p* hm cs k $C* f cdv A outer s H E hr
     exact $b $s $n $c $C*)]
set_option hygiene true
example(yl3 ya7 xe4 xo7):"U6/within/wide high cell/":=">öŶ1:ĵxĶÕii(j/Ŷ1:ĵxĶÕii(j,"
example(yg5 zq9 ye2 zn7):"U7/covered/kind place/x y cells i":="÷ķÖøĸ*ĸ$%;×ùØ+7Ù%%ú]ŷŸŹź]^J*J+J$yzØÚ]ŷŸŹźû,8{</%"
example(yf2 zv7 ys8 zk9):"U8/holders/hall stand/held wall n kind cell/Ucovered kind place":="üŻÛ_$7Ü*<|ż×ýǋ##ĹØÝ%+5ÛFS+þ,K&7Ü*GK*"
example(xx6 xc7 wi5 wn0):"U13/goes/ways direction/":="TÞ/LĺUMÿĻ,(Þ/LĺUMÿĻ,(>ßUML"
example(zp0 zk7 zw6 zt6):"U14/one_further/place direction/east north":="}.ǌǍ]Ā'0Ā0'ĀŽ0Ā0ŽN*ā$ǎ0##Ǐ#4##OO,~kû_8{_<"
example(yn3 yb1 xe8 zq7):"U15/met_by/hall stand held n direction/kind met cell holder/Ugoes ways direction/Ucovered kind place/Uone_further place direction/Uwithin wide high cell":="À+`_<aĂăFàÁ=%l&;Ûbc=m?nà`,<%-3Ąǐ1:ĵxH8d<Ǒ####aąļP|żĂă?Ćć_à_3l5ÂáĈ@P<ÃĽ9ĉPGo&&P7Ċ&"
example(zm9 zg5 zm7 ze6):"U16/movers_among/hall stand held n direction/strong going asked met/Umet_by hall stand held n direction":="A+Á`_<Þ=|ǒl÷ċ&VB$3(}eľČ))âÕdW&Ąč'S*à`Gd%aąĎďĐPáĈ@P;@=|ǓlX.Ù&&ĿQžſãJ&CDäpDåžſđÃĽ9ĉ/,/ǔN34#OǕ(ŀYĒ&ǖǗ#ŁłÄÅ"
example(yn2 yb0 xe7 xo8):"U17/movers/hall stand n direction//Umovers_among hall stand held n direction/Uholders hall stand":=">Fc/c,mbæç*$"
example(zp9 zk8 zw7 zm6):"U18/behind_step/stand going direction/places n/Uone_further place direction":="A$q0ǘǙ#ÆÇēC'p'Ĕ%7ǚĕ1:KFà`/K*ǛǜǝǞĕǟǠ>Ė$"
example(yb3 ya9 xe6 zj8):"U19/pushed/hall stand push/n direction many behind step going/Umovers hall stand n direction/Ubehind_step stand going direction":="Tķr*ƀ$Ɓ$%Ń+ń.ƂN&4#OÖ×èzB+3Ąč&ė$ÂĎďĐPƃ7Ņ&Obs&D%&"
example(zm5 zj5 zt8 ze5):"U20/stands_along/hall stand held n direction/stands last going/Umovers_among hall stand held n direction/Ubehind_step stand going direction/Umovers hall stand n direction":="À+;.ƂN&4#OÖ3č's*$%eľČ))ĎǡǢdA&bs&3%.o++G7Ņ3O?nņ&ė$7Ċ+"
example(zh5 ze3 zh6 zd1):"U21/pushes_with_ends/hall stand/held pairs n direction ends/Uholders hall stand/Ustands_along hall stand held n direction":="üFæR$;×ùYW'%5ùE+XR&bņ'Ę*+Ù$$ú]ŇÈňŉ]^^J%J+C&ǣ#Ĺér&øÚ]ŇÈňŉę']ŇÈňŉts*$0B'$"
example(zs4 zk0 zr4 ym0):"U22/all_pushes/hall stand//Upushes_with_ends hall stand":=">ŊQŋÈã^yÉFæøåŋÈę'QŋÈ/"
noncomputable abbrev zf9:Stmt:=top 25
noncomputable abbrev zo1:List Str:=["stands"]
def zv5:zc2 zo1 ["stands"] (za3 zf9):=by and_intros
instance zi9:{ B:FnS D // ∀P w K mg base (a:Addr) (hm:Bn mg) (cs:Cst K mg) k f cdv A outer s H E,vd5 k (A.deeper (envOfC "refuse_too_many" (za3 zf9) s.heap.objs.size f cdv))->
 DSs (vf7 CX0 P w K mg base zo1 "refuse_too_many" (za3 zf9) f cdv A outer s H E).nox (cxS (WdD K a) K H) (zb8 zf9) B }:=by
 refine{?B,λP w K mg base a hm cs k f cdv A outer s H E hr=>?h};case h=>exact"5ÂÊŌiǤ#ƄƅI0|Ɔƃ" zf9 zo1 zv5
noncomputable abbrev zj6:Stmt:=top 26
noncomputable abbrev zt9:List Str:=["hall","layer","ways","further","stand","push","end"]
def zf3:zc2 zt9 ["hall","layer","ways"] (za3 zj6):=by and_intros
instance zn0(C1)(D8:List D->D->Res D D):{ B:FnS D // ∀P w K mg base (a:Addr) (hm:Bn mg) (cs:Cst K mg) k (A7:zb9 P w K mg base k "pushes_with_ends" ["hall","stand"] (sp0 K C1)) (C6:zb9 P w K mg base k "refuse_too_many" ["stands"] (spS (WdD K a) K D8)) f cdv A outer s H E,vd5 k (A.deeper (envOfC "layer_behind" (za3 zj6) s.heap.objs.size f cdv))->
 DSs (vf7 CX0 P w K mg base zt9 "layer_behind" (za3 zj6) f cdv A outer s H E).nox (cxS (WdD K a) K H) (zb8 zj6) B }:=by
 refine{?B,λP w K mg base a hm cs k A7 C6 f cdv A outer s H E hr=>?h};case h=>exact"A$;èƇ#Ö%XýÉFƈ%Ý+&5fǥ#HGI*X.Ǧ#HI*Gkė+o$$GǧōŎŏ*->Ē$Ɖ9Ɗ#" zj6 zt9 zf3 A7 C6
noncomputable abbrev ya8:Stmt:=top 27
noncomputable abbrev xe5:List Str:=["hall","stand","most","ways","found","layer"]
def zq6:zc2 xe5 ["hall","stand","most"] (za3 ya8):=by and_intros
instance yl8(E9:List D->D->Res D D):{ B:FnS Unit // ∀P w K mg base (hm:Bn mg) (cs:Cst K mg) k (D4:∀a:Addr,zb9 P w K mg base k "layer_behind" ["hall","layer","ways"] (spL (WdD K a) K E9)) f cdv A outer s H E,vd5 k (A.deeper (envOfC "spread" (za3 ya8) s.heap.objs.size f cdv))->
 DSs (vf7 CX0 P w K mg base xe5 "spread" (za3 ya8) f cdv A outer s H E).nox (cx0 K H) (zb8 ya8) B }:=by
 refine{?B,λP w K mg base hm cs k D4 f cdv A outer s H E hr=>?h};case h=>exact"À$ƋH,lR%;+VB'eľČ))áĈ@=;âÕW%8X.Ő+o%%=Ǩgā$#ǩ9#4#O/=ĕXÂ@=;Ő+o%%=Ő%ǪǫƌƍI%ƌƍĕǬ" ya8 xe5 zq6
example(yn6 yb2 xe9 yd1):"U28/layers/hall stand most/found ways/Uspread hall stand most":="×ĚFs0'*$%$"
example(yg7 zv8 ys9 zy0):"U29/come_to/hall stand/found ways/Uspread hall stand most":="}Ěč'Ǝ|Ɔ-*$Ē$ǭ#9Ǯ"
example(zn4 zg6 zm8 zl1):"U34/_law_covered/_law_kind_here _law_place/_law_found _law_i":="ü;ùØ$7Ù**úËƏƐƑě$'yzØĜƏƐƑûj,{j/7Ċ*"
example(zn3 zj7 zu0 zq8):"U35/_law_room_of/_law_wide _law_high _law_kind_here/_law_across _law_up":="}.ĝN$ā%#4##6##êëĞ/jëĞ,j#ǯ1HğĠ<Kğ<ğKğ(ǰ##Ǳ66ƒj~"
example(zs5 zm2 zz5 zv6):"D36/_law_sized/_law_state _law_broad/_law_way/D_law_take _law_state _law_many":="ġaĢ,ģ*ZÞ8(ģÞ8(ģ>ģ"
example(zv1 zo8 ye3 zd3):"D37/_law_kind/_law_state _law_wide _law_high _law_broad/_law_sizes _law_across _law_up _law_ways _law_great/D_law_take _law_state _law_many":="À%VĤĤÌ.ĝgÍ#4##6##êÎc,ìíKőŒœŔÎc8ìíKőŒœŔ#3íVƓĥ-fĢ<A3íVƓĥ-ÏdLĝgÍ#4##6##êĦ,Z(#5ÏdLĝgÍ#4##6##ê(Ħ8Z#ĄZÏP(ŕgÍŖ3#4###666###ħ(Ħ8îYĨ*éL#TÏP(ŕgÍŖ3#4###666###ħĦ,îYĨ'(éL#ÏP(ŕgÍŖ3#4###666###ħĨ'Ĩ*éL#5Ðŗ)Ðu)ec))=ec))G.cdìíƔŘŘřǲǳ1(-"
example(zv2 zh0 zl3 zc1):"D38/_law_hall/_law_state _law_broad _law_much/_law_wide _law_high _law_cells _law_shuts _law_taken _law_kinds _law_places _law_rooms _law_turn _law_kind_here _law_place _law_own _law_room _law_cell/D_law_sized _law_state _law_broad/U_law_covered _law_kind_here _law_place/D_law_take _law_state _law_many/D_law_kind _law_state _law_wide _law_high _law_broad/U_law_room_of _law_wide _law_high _law_kind_here":="ġĚîB'$%+btï$%ĩEtÌ-.ƕN&ŚËhƖƗśě0'C+ä#4##p+ŜĜhƖƗđÊUMÑnþVÌq*ŝŞĪī(/#ċ3ƘĬúChC^C&p&ÚChS0şð-Ǵ#ǵ9ǶŠšÀD;R[;v(èzìŢƔƙñnEEq'ŝŞĪīţÀòñĆĘ$'RÒumñn{Ğ<Áw(mñn{ĞKÁw(-óbçòÒRŤ?ƚĘ$ò5fáƛâÕWD(ĈâĶĠ2v2Ť8ĂăÎĬŊQhƜãJ3CópóåhƜôǷ1:H/,Ǹ#ťĭǹǺAvĠ2v2Ť.oDDwÓ.o[[2Ò5ēCópóĔƝ7Ü32Ɲð>ktï$%ƞĖ&YĖDYĖ["
example(zv0 zi8 zp4 zf5):"D39/_law_lane/_law_state/_law_shuts _law_first _law_y _law_gap _law_cells _law_place/D_law_take _law_state _law_many/U_law_covered _law_kind_here _law_place":="ġċ';*ZfÊŌiZ(5ƟÉkĤÌ$Xċ%Ġ(ÿĻŦÿǻ<8Ù''ĿËƠơƢě$%yäzEĜƠơƢđ@/8kæ.ƕgŚQhƣśãJ'yä#4##ÉbtĤĩEtÌ-ŜåhƣđÃĽ9ĉ/,/#ÓR&Ţ=îYW+5Ðŗ)Ðu)ŧŨ))Ðu)eĮ))(eĮ))(em))ŀYĒ'Ǽǽ#ŁłÄÅ.ŨuŨuŘĮLmZ---.tB&-"
noncomputable abbrev zi7:Stmt:=top 33
noncomputable abbrev zp3:List Str:=["_law_found","_law_due"]
def yr5:zc2 zp3 ["_law_found","_law_due"] (za3 zi7):=by and_intros
instance zj3(D7):{ B:FnS Unit // ∀P w K mg base (hm:Bn mg) (cs:Cst K mg) k (C2:zb9 P w K mg base k "_law_same" ["_law_found","_law_due"] (sp0 K D7)) f cdv A outer s H E,vd5 k (A.deeper (envOfC "_law_same" (za3 zi7) s.heap.objs.size f cdv))->
 DSs (vf7 CX0 P w K mg base zp3 "_law_same" (za3 zi7) f cdv A outer s H E).nox (cx0 K H) (zb8 zi7) B }:=by
 refine{?B,λP w K mg base hm cs k C2 f cdv A outer s H E hr=>?h};case h=>exact"TaĎďĐ,ßďĐlfįƤŠš}İĂĢÔƤŠš@W0W'ÎĬũËƥƦƧě0'C'Ūƨp'ĜƥƦƧößǾ9ĉ,Fć`,/þ8/Ʃ#ťĭƪƫTfąįūÆÇįŬÄÅTı@ÔūÆÇŭūÆÇİ@ÔŬÄÅŭŬÄÅ@W0W'>ÎĬũQŮůã^Q0'Ūƨǿ#Ȁêr0ÖøåŮůę'QŮůFæƩ#ťĭƪƫaįƬƭƮöÔƬƭƮßUM,>ƯÔȁĪīöȂ1ÔȃȄȅßUM," zi7 k zi7 C2
example(vv1 vi3 vk6 zj9):"L40/law/_law_script/_law_state _law_broad _law_hall_here _law_stand _law_found _law_numbers _law_number _law_layer _law_one _law_led _law_push _law_behind _law_most/D_law_take _law_state _law_many/D_law_hall _law_state _law_broad _law_much/D_law_lane _law_state/Ulayers hall stand most/Ucome_to hall stand/Uall_pushes hall stand/Upushed hall stand push/U_law_same _law_found _law_due":="üưUMÑõE(ĚÑŏS*þVÌq*ŝŞĪī$%÷ÂÊUMÑõE(ƱÑn-Ý$%+?Ćï$%EA&ŻēC+Ȇ#Ĺér+Ý3D5èƇ#rD[XıŰȇ1:HĲGÜ&Ĳdġİ@ôȈ1:ȉȊ#=(~VB%ÊƲMűYq&Ƴ#ƴÆÇƉ9Ɗ#Ƶƶ?ƚė$vƋHKðÛq&Ƴ#ƴÆÇ[5Û?ȋç$[ţAò?Ȍs$[ţİŰȍ1:HwGâŌĳwëĳĲ5ÏĳwëĳĲÜvwðı@ŲvƷƸŲ&ƷƸ}RÒÑõ{ƹ+Ȏ#(?ȏm?ĆĘ$ÒìȐ1#=ȑȒōë2Ò"
section
variable{P:Program}{w:World}{K:PySem.W.Frag}{mg:Str->Option Value}{base:Heap}
open H in
def ww7(F:Fun K "law" "law" vi3 f fd){k:Nat}(CB:zb9 P w K mg base k "_law_begin" ["_law_script"] (yx2 K))(hb:∀(p l:Addr) (cdv:Value) (A:Around) (outer:List Env) (s:Shared) (H:Hp) (E:XK),vd5 k (A.deeper (envOfC "law" (za3 vi3) s.heap.objs.size f cdv))->DSs (vf7 CX0 P w K mg base vk6 "law" (za3 vi3) f cdv A outer s H E).nox (cxS (WdS p l) K (λ_=>none)) ((zb8 vi3).drop 1) B)(hB:∀ns:List Int,ns.length<=63->wpR (B (rhoL vk6.length) (zp8 ns,0)) (λfl _=>fl=.rt (.bl true)) λ_ _=>False):vk3 P w K mg base CX0 (k+1) f fd ["_law_script"] (spLaw K):=by
 refine F.ok zj9 (λvs H Q E h=>?_) (λcdv A outer s H vs Q E hr h=>?_)
 ·obtain⟨a,ns,rfl,_⟩:=h;rfl
 ·obtain⟨a,ns,rfl,hS,h63,q⟩:=h
  obtain⟨fa,fd',m1,m2,m3,m4⟩:=CB.ex;refine{_,zg9 (zr2 (i:=1) zj9.nd rfl (Or.inl rfl) (ym5 (E:=E0) m4 hr (by rfl) m1 m2 m3 .nil vq8 (zf6 (pv 0) zn8))) (wn7 (K:=K) λp l=>hb p l cdv A outer s H E hr),?_};refine{.ref a,rfl,a,ns,rfl,hS,h63,λp l H' sm hp hl h1 h2=>?_};have cl:(zp8 ns).length<=63/\zp8 ns≠[]:=by
   unfold zp8;split
   ·exact{'z','d'}
   ·rename_i hne;exact⟨h63,hne⟩
  refine{p,l,rhoL vk6.length,(zp8 ns,0),ue3 (m:=vk6.length-2),{h1,h2,cl.2,cl.1,Int.le_refl 0},?_};refine za6 (hB ns h63) (λfl st' e=>?_) λx st' e=>e.elim
  subst e;intro v H2 _ _ z;rw[Is.bl_iff.mp z];exact q H2
end
section
variable{S:Type}
def wl5{g:FnG}(I:Nat->Rho->S->Prop){l:List D}{Z:Rho}{st:S}(n:Nat)(h0:I n Z st)(hs:∀i d Z st,l[i]?=some d->I (n+i) Z st->∀P:Fl->S->Prop,(∀Z2 st',I (n+i+1) Z2 st'->P (.nx Z2) st')->(∀d st',Q (.rt d) st'->P (.rt d) st')->∃Z1,g d Z=some Z1/\wpR (B Z1 st) P E)(he:∀Z st,I (n+l.length) Z st->Q (.nx Z) st):wpR (vn5 S g B l Z st) Q E:=
 yw8 I n h0 (λi d Z st h h'=>hs i d Z st h h' _ (λ_ _ z=>z) λ_ _ z=>z) he
def zf1{g:FnG}(I:Nat->Rho->S->Prop){l:List D}{Z:Rho}{st:S}(n:Nat)(h0:I n Z st)(hs:∀i d Z st,l[i]?=some d->I (n+i) Z st->∀P:Fl->S->Prop,(∀Z2 st',I (n+i+1) Z2 st'->P (.nx Z2) st')->∃Z1,g d Z=some Z1/\wpR (B Z1 st) P E)(he:∀Z st,I (n+l.length) Z st->Q (.nx Z) st):wpR (vn5 S g B l Z st) Q E:=
 yw8 I n h0 (λi d Z st h h'=>hs i d Z st h h' _ λ_ _ z=>z) he
def zu4{F G:FnS S}{Z:Rho}{st:S}(I:Rho->S->Prop)(h1:∀P:Fl->S->Prop,(∀Z1 st1,I Z1 st1->P (.nx Z1) st1)->wpR (F Z st) P E)(h2:∀Z1 st1,I Z1 st1->wpR (G Z1 st1) Q E):wpR (vt1 S F G Z st) Q E:=
 wt6 I (h1 _ λZ1 st1 h=>⟨Z1,rfl,h⟩) h2
def yc4{t:FnT S}{Z:Rho}{st:S}(I:Rho->S->Prop)(μ:Rho->S->Nat)(h0:I Z st)(hs:∀Z st,I Z st->∀(P:Fl->S->Prop) (Zv0:S->Prop),(∀Z2 st2,I Z2 st2->μ Z2 st2<μ Z st->P (.nx Z2) st2)->(∀d st',Q (.rt d) st'->P (.rt d) st')->(∀st1,Q (.nx Z) st1->Zv0 st1)->wpR (t Z st) (λb st1=>if b=true then wpR (B Z st1) P E else Zv0 st1) E):wpR (yi4 S t B Z st) Q E:=
 xm7 I μ h0 λZ st h=>hs Z st h _ (λst1=>Q (.nx Z) st1) (λ_ _ a b=>⟨a,b⟩) (λ_ _ z=>z) λ_ z=>z
end
def zw3{i j:Int}(h:vo0 i j):vu2 (.int i) (.int j)=some (.int (i*j)):=by
 unfold vu2;rw[wj2 h];rfl
noncomputable abbrev vc2:=Int×Int
instance vc0(p:vc2):D:=.tup [.int p.1,.int p.2]
def zc4(p:vc2):(vc0 p).imm=true:=by simp[vc0,D.imm,D.immL]
def ws1(p:vc2):(vc0 p).lw=true:=wi9 (by simp[D.lwL,D.lw]) 'd'
def xh8(p:vc2):(vc0 p).dep<=1:=by simp[vc0,D.dep,D.depL]
instance vm2(h:Int)(p:vc2)(i:Nat):List vc2:=(List.range h.toNat).map λ(j:Nat)=>(p.1+(i:Int),p.2+(j:Int))
instance cov(w h:Int)(p:vc2):List vc2:=(List.range w.toNat).flatMap (vm2 h p)
def zu6{w h:Int}:q∈cov w h p↔p.1<=q.1/\q.1<p.1+w/\p.2<=q.2/\q.2<p.2+h:=by
 unfold cov vm2;simp only[Cd0,Bw0,Bb0];constructor
 ·rintro ⟨i,hi,j,hj,rfl⟩
  refine{?_,?_,?_,?_}<;>simp<;>omega
 ·rintro ⟨h1,h2,h3,h4⟩
  refine{(q.1-p.1).toNat,'o',(q.2-p.2).toNat,'o',?_};refine Prod.ext ?_ ?_<;>simp<;>omega
def xm0{w h:Int}:(cov w h p).length=w.toNat*h.toNat:=by
 unfold cov vm2;rw[List.length_flatMap];simp only[Aa0,Bo0,List.map_const',List.sum_replicate_nat]
instance kd(w h:Int)(ways:Str)(s:Int):D:=.tup [.int w,.int h,.str ways,.int s]
def xv5{w h:Int}{ways:Str}{s:Int}:(kd w h ways s).imm=true:=by simp[kd,D.imm,D.immL]
def at0:atI [a,b,c,d] 0=some a:=rfl
def at1:atI [a,b,c,d] 1=some b:=rfl
def at2:atI [a,b,c,d] 2=some c:=rfl
def pt0:atI [a,b] 0=some a:=rfl
def pt1:atI [a,b] 1=some b:=rfl
instance zx6:List D->Res Unit D:=dfn 4 2 zn4.1
def yd9(h1:D.immL m=true)(h2:l.length+m.length<=1000):ub5 l (.lst m)=some (l++m):=by
 show (if D.immL m=true/\l.length+m.length<=sizeLine then some (l++m) else none)=_;rw[if_pos {h1,zj1 h2}]
def zy5{a b c d:Nat}(h1:a<=c)(h2:b<=d):a*b<=c*d:=Nat.mul_le_mul h1 h2
def zx8{w h:Int}{ways:Str}{s:Int}(hw:w<=30)(hh:h<=30)(h0:0<=w)(h1:0<=h)(hq:Q (.lst ((cov w h p).map vc0)) ()):wpR (zx6 [kd w h ways s,vc0 p]) Q E:=by
 refine zg3 rfl 'z' ?_;unfold zn4;dsimp only;simp?! [zb6,vh3,kd,oIx,at0,at1];rw[zh2 'o' h0];refine zf1 (λi Z st'=>∃x,Z=[.bor (kd w h ways s),.bor (vc0 p),.own (.lst (((List.range i).flatMap (vm2 h p)).map vc0)),x]) 0 {_,rfl} (λi d Z st' hd hI P pn=>?_) λZ st' hI=>?_
 ·obtain⟨x,e⟩:=hI
  obtain⟨rfl,hi⟩:=zf8 hd;subst e;have him:∀i:Nat,D.immL (((List.range i).flatMap (vm2 h p)).map vc0)=true:=λi=>zb1 zc4 _
  refine{_,rfl,?_};simp?! [zb6,vd8,him,kd,oIx,at0,at1];rw[zh2 'o' h1];refine zi5 (λd=>match d with | .int j=>vc0 (p.1+(i:Int),p.2+j) | _=>.non) (λZ=>∃x,Z=[x,.bor (.int (0+(i:Int))),.bor (vc0 p)]) {_,rfl} (λd hd Z hI128=>?_) (zj1 (by rw[zd8];omega)) ?_
  ·obtain⟨x,e⟩:=hI128
   subst e;obtain⟨j,hj⟩:=Bt0 hd;obtain⟨rfl,hj'⟩:=zf8 hj;refine{_,rfl,{_,rfl},⟨rfl,rfl⟩,?_};simp?! [zb6,vc0,oIx,pt0,pt1,ve7,vg7,vg5];simp
  ·have e:(zm0 0 h.toNat).map (λd=>match d with | .int j=>vc0 (p.1+(i:Int),p.2+j) | _=>D.non)=(vm2 h p i).map vc0:=by
    unfold zm0 vm2;rw[Bq0,Bq0];refine List.map_congr_left λj _=>?_
    simp[vc0]
   rw[e];refine{_,yd9 (zb1 zc4 _) ?_,pn _ _ {.bor (.int (0+(i:Int))),?_}}
   ·rw[Aa0,Aa0,List.length_flatMap]
    unfold vm2;simp only[Aa0,Bo0,List.map_const',List.sum_replicate_nat];have:i*h.toNat<=29*30:=zy5 'o' 'o';omega
   ·rw[Cs0,Cl0,Ay0]
    simp[kd]
 ·obtain⟨x,e⟩:=hI
  subst e;rw[zd8,Ah0];have him:∀i:Nat,D.immL (((List.range i).flatMap (vm2 h p)).map vc0)=true:=λi=>zb1 zc4 _
  simp?! [zb6,him];exact hq
instance vt5:List D->Res Unit D:=dfn 5 3 zn3.1
instance zk1(A5 A4 w h:Int)(ways:Str):Int:=if ways = "any" then (A5-w+1)*(A4-h+1) else if ways = "row" then A5-w+1 else if ways = "column" then A4-h+1 else 1
instance vm3(x:Str):Prop:=x = "any"\/x = "row"\/x = "column"\/x = "none"
def wk8{A5 A4 w h:Int}{ways:Str}{s:Int}(h1:0<=A5-w)(h2:A5-w<=100)(h3:0<=A4-h)(h4:A4-h<=100)(hw:vm3 ways)(hq:Q (.int (zk1 A5 A4 w h ways)) ()):wpR (vt5 [.int A5,.int A4,kd w h ways s]) Q E:=by
 refine zg3 rfl 'z' ?_;unfold zn3;dsimp only;have cm:vo0 (A5-w+1) (A4-h+1):=.inl {'o','o'};simp?! [zb6,kd,oIx,at0,at1,at2,vg7,ve7,ua5,zw3 cm];have pk:vm9 ways ["any","row","column","none"] [D.int ((A5-w+1)*(A4-h+1)),D.int (A5-w+1),D.int (A4-h+1),D.int 1]=some (.int (zk1 A5 A4 w h ways)):=by
  rcases hw with e | e | e | e<;>subst e<;>rfl
 rw[pk];exact{.inl imm_int,hq}
instance xo5:List D->Dr->Res Dr D:=vp8 3 2 (zs5 vg3).1
theorem wb1{B5:Bool}{st:Dr}{Q:D->Dr->Prop}{E:Exn->Dr->Prop}(hs:st.2<2 ^ 39)(h:∀(w h:Int) st',1<=w->w<=9->1<=h->h<=9->(B5=true->5<=w/\4<=h)->st'.2<=st.2+3->Q (.tup [.int w,.int h]) st'):wpR (xo5 [.bl B5] st) Q E:=by
 refine yc7 rfl 'z' ?_;unfold zs5;dsimp only;simp?! [zb6];cases B5 with
 | true=>
   simp?! [zb6];refine zc9 'z' 'z' 'o' λv1 st1 a1 b1 c1=>?_
   simp?! [ve7,vg7,zb6];refine zc9 'z' 'z' 'o' λv2 st2 a2 b2 c2=>?_
   simp?! [ve7,vg7,zb6,vg5];exact h _ _ _ 'o' 'o' 'o' 'o' (λ_=>{'o','o'}) 'o'
 | false=>
   simp?! [zb6];refine zc9 'z' 'z' 'o' λv1 st1 a1 b1 c1=>?_
   simp?! [oEq,D.dep,D.eqq,An0,At0,zb6];split
   ·refine zc9 'z' 'z' 'o' λv2 st2 a2 b2 c2=>?_
    simp?! [ve7,vg7,zb6];refine zc9 'z' 'z' 'o' λv3 st3 a3 b3 c3=>?_
    simp?! [ve7,vg7,zb6,vg5];exact h _ _ _ 'o' 'o' 'o' 'o' (λe=>by cases e) 'o'
   ·split
    ·refine zc9 'z' 'z' 'o' λv2 st2 a2 b2 c2=>?_
     simp?! [ve7,vg7,zb6];refine zc9 'z' 'z' 'o' λv3 st3 a3 b3 c3=>?_
     simp?! [ve7,vg7,zb6,vg5];exact h _ _ _ 'o' 'o' 'o' 'o' (λe=>by cases e) 'o'
    ·refine zc9 'z' 'z' 'o' λv2 st2 a2 b2 c2=>?_
     simp?! [ve7,vg7,zb6];refine zc9 'z' 'z' 'o' λv3 st3 a3 b3 c3=>?_
     simp?! [ve7,vg7,zb6,vg5];exact h _ _ _ 'o' 'o' 'o' 'o' (λe=>by cases e) 'o'
def yi3{v:Int}(h0:0<=v)(h1:v<6):∃s:Int,oIx (.lst [.int 1,.int 1,.int 1,.int 2,.int 2,.int 3]) (.int v)=some (.int s)/\1<=s/\s<=3:=by
 obtain⟨d,hd,e⟩:=yu2 (l:=[.int 1,.int 1,.int 1,.int 2,.int 2,.int 3]) (by simp[D.immL,D.imm]) h0 (by simpa using h1);rw[e];simp only[Aj0,Bk0,or_false] at hd;rcases hd with r | r | r | r | r | r<;>subst r<;>exact{_,rfl,'z','z'}
def xj1{v:Int}(h0:0<=v)(h1:v<6):∃s:Str,oIx (.lst [.str "any",.str "any",.str "row",.str "column",.str "row",.str "none"]) (.int v)=some (.str s)/\vm3 s:=by
 obtain⟨d,hd,e⟩:=yu2 (l:=[.str "any",.str "any",.str "row",.str "column",.str "row",.str "none"]) (by simp[D.immL,D.imm]) h0 (by simpa using h1);rw[e];simp only[Aj0,Bk0,or_false] at hd;rcases hd with r | r | r | r | r | r<;>subst r<;>exact{_,rfl,by simp[vm3]}
def xj0{v:Int}(h0:0<=v)(h1:v<6):∃s:Str,oIx (.lst [.str "row",.str "column",.str "row",.str "column",.str "any",.str "none"]) (.int v)=some (.str s)/\vm3 s:=by
 obtain⟨d,hd,e⟩:=yu2 (l:=[.str "row",.str "column",.str "row",.str "column",.str "any",.str "none"]) (by simp[D.immL,D.imm]) h0 (by simpa using h1);rw[e];simp only[Aj0,Bk0,or_false] at hd;rcases hd with r | r | r | r | r | r<;>subst r<;>exact{_,rfl,by simp[vm3]}
def yx1{v:Int}(h0:0<=v)(h1:v<6):∃s:Int,oIx (.lst [.int 0,.int 0,.int 1,.int 1,.int 1,.int (-1)]) (.int v)=some (.int s)/\(s=0\/s=1\/s=-1):=by
 obtain⟨d,hd,e⟩:=yu2 (l:=[.int 0,.int 0,.int 1,.int 1,.int 1,.int (-1)]) (by simp[D.immL,D.imm]) h0 (by simpa using h1);rw[e];simp only[Aj0,Bk0,or_false] at hd;rcases hd with r | r | r | r | r | r<;>subst r<;>exact{_,rfl,'z'}
def vn0(h1:a.imm=true)(h2:b.imm=true)(h3:c.imm=true)(h4:d.imm=true):vn1 [a,b,c,d]=some (.tup [a,b,c,d]):=zy4 (by simp[D.immL,h1,h2,h3,h4]) 'd'
instance vv3:List D->Dr->Res Dr D:=vp8 9 4 (zv1 vg3).1
instance vo4(a b:Int):Int:=if b<a then b else a
def yt1{a b:Int}:xs3 (λi j=>if j<i then j else i) [.int a,.int b]=some (.int (vo4 a b)):=rfl
def zy7{a b:Int}:vo4 a b<=a/\vo4 a b<=b/\(vo4 a b=a\/vo4 a b=b):=by unfold vo4;split<;>omega
def wl1{A5 A4:Int}{B5:Bool}{st:Dr}{Q:D->Dr->Prop}{E:Exn->Dr->Prop}(hs:st.2<2 ^ 39)(h1:1<=A5)(h2:A5<=9)(h3:1<=A4)(h4:A4<=9)(hb:B5=true->5<=A5/\4<=A4)(h:∀(a u:Int) (ways:Str) (s:Int) st',1<=a->a<=A5->1<=u->u<=A4->vm3 ways->(s=0\/s=1\/s=-1)->st'.2<=st.2+11->Q (kd a u ways s) st'):wpR (vv3 [.int A5,.int A4,.bl B5] st) Q E:=by
 refine yc7 rfl 'z' ?_;unfold zv1;dsimp only;simp_all!;simp! [zp1];simp_all!;simp!;refine zc9 'z' 'z' 'o' λv1 st1 a1 b1 c1=>?_
 obtain⟨s1,e1,l1,u1⟩:=yi3 a1 b1;simp! [e1,yt1];refine zc9 'z' 'z' 'o' λv2 st2 a2 b2 c2=>?_
 obtain⟨s2,e2,l2,u2⟩:=yi3 a2 b2;simp! [e2,yt1];simp_all!;simp! [zp1];refine zc9 'z' 'z' 'o' λv3 st3 a3 b3 c3=>?_
 obtain⟨x1,e3,w1⟩:=xj1 a3 b3;simp! [e3];have m1:=zy7 (a:=A5) (b:=s1);have m2:=zy7 (a:=A4) (b:=s2);generalize vo4 A5 s1=A1 at m1;generalize vo4 A4 s2=A2 at m2;refine zu4 (λZ st'=>∃(a u:Int) (x:Str) (y:Sl),Z=[Sl.hnd,.bor (.int A5),.bor (.int A4),.bor (.bl B5),.own (.lst [.int 1,.int 1,.int 1,.int 2,.int 2,.int 3]),.bor (.int a),.bor (.int u),.bor (.str x),y]/\1<=a/\a<=A5/\1<=u/\u<=A4/\vm3 x/\st'.2<=st.2+6) ?_ ?_
 ·intro P1 pn1
  simp!;cases B5 with
  | false=>
    simp!;exact pn1 _ _ {A1,A2,x1,_,rfl,'o','o','o','o',w1,'o'}
  | true=>
    obtain⟨k1,k2⟩:=hb rfl;rw[if_pos rfl,zb6];simp! [zp1];refine zc9 'z' 'z' 'o' λv4 st4 a4 b4 c4=>?_
    obtain⟨x2,e4,w2⟩:=xj0 a4 b4;simp! [e4];refine zu4 (λZ st'=>∃(a u:Int) (y:Sl),Z=[Sl.hnd,.bor (.int A5),.bor (.int A4),.bor (.bl true),.own (.lst [.int 1,.int 1,.int 1,.int 2,.int 2,.int 3]),.bor (.int a),.bor (.int u),.bor (.str x2),y]/\1<=a/\a<=A5/\1<=u/\u<=A4/\st'.2<=st4.2+1) ?_ ?_
    ·intro P2 pn2
     simp! [oEq,D.dep,D.eqq,An0,At0];split
     ·refine zc9 'z' 'z' 'o' λv5 st5 a5 b5 c5=>?_
      simp! [vg7];exact pn2 _ _ {_,_,_,rfl,'o','o','o','o','o'}
     ·exact pn2 _ _ {A1,A2,_,rfl,'o','o','o','o','o'}
    ·rintro Z1 st5 ⟨a,u,y,rfl,g1,g2,g3,g4,g5⟩
     simp! [oEq,D.dep,D.eqq,An0,At0];split
     ·refine zc9 'z' 'z' 'o' λv5 st6 a5 b5 c5=>?_
      simp! [vg7];exact pn1 _ _ {_,_,_,_,rfl,'o','o','o','o',w2,'o'}
     ·exact pn1 _ _ {a,u,_,_,rfl,'o','o','o','o',w2,'o'}
 ·rintro Z1 st4 ⟨a,u,x,y,rfl,g1,g2,g3,g4,g5,g6⟩
  simp_all!;simp!;refine zc9 'z' 'z' 'o' λv4 st5 a4 b4 c4=>?_
  simp!;refine zu4 (λZ st'=>∃(a u:Int) (x:Str),Z=[Sl.hnd,.bor (.int A5),.bor (.int A4),.bor (.bl B5),.own (.lst [.int 1,.int 1,.int 1,.int 2,.int 2,.int 3]),.bor (.int a),.bor (.int u),.bor (.str x),.bor (.int v4)]/\1<=a/\a<=A5/\1<=u/\u<=A4/\vm3 x/\st'.2<=st5.2+1) ?_ ?_
  ·intro P3 pn3
   simp! [oEq,D.dep,D.eqq,An0,At0];split
   ·have m3:=zy7 (a:=A4) (b:=3)
    simp! [yt1];generalize vo4 A4 3=B at m3;refine zc9 'o' 'o' 'o' λv5 st6 a5 b5 c5=>?_
    simp! [vg7];exact pn3 _ _ {_,_,_,rfl,'o','o','o','o',by simp[vm3],'o'}
   ·exact pn3 _ _ {a,u,x,rfl,'o','o','o','o',g5,'o'}
  ·rintro Z1 st6 ⟨a,u,x,rfl,g1,g2,g3,g4,g5,g7⟩
   refine zu4 (λZ st'=>∃(a u:Int) (x:Str),Z=[Sl.hnd,.bor (.int A5),.bor (.int A4),.bor (.bl B5),.own (.lst [.int 1,.int 1,.int 1,.int 2,.int 2,.int 3]),.bor (.int a),.bor (.int u),.bor (.str x),.bor (.int v4)]/\1<=a/\a<=A5/\1<=u/\u<=A4/\vm3 x/\st'.2<=st6.2+1) ?_ ?_
   ·intro P4 pn4
    simp! [oEq,D.dep,D.eqq,An0,At0];split
    ·have m3:=zy7 (a:=A5) (b:=3)
     simp! [yt1];generalize vo4 A5 3=B at m3;refine zc9 'o' 'o' 'o' λv5 st7 a5 b5 c5=>?_
     simp! [vg7];exact pn4 _ _ {_,_,_,rfl,'o','o','o','o',by simp[vm3],'o'}
    ·exact pn4 _ _ {a,u,x,rfl,'o','o','o','o',g5,'o'}
   ·rintro Z1 st7 ⟨a,u,x,rfl,g1,g2,g3,g4,g5,g8⟩
    refine zu4 (λZ st'=>∃(a u:Int) (x:Str),Z=[Sl.hnd,.bor (.int A5),.bor (.int A4),.bor (.bl B5),.own (.lst [.int 1,.int 1,.int 1,.int 2,.int 2,.int 3]),.bor (.int a),.bor (.int u),.bor (.str x),.bor (.int v4)]/\1<=a/\a<=A5/\1<=u/\u<=A4/\vm3 x/\st'.2<=st7.2) ?_ ?_
    ·intro P5 pn5
     simp! [oEq,D.dep,D.eqq,An0,At0];split
     ·have m3:=zy7 (a:=A5) (b:=4)
      have m4:=zy7 (a:=A4) (b:=4);simp! [yt1];generalize vo4 A5 4=B at m3;generalize vo4 A4 4=B' at m4;exact pn5 _ _ {_,_,_,rfl,'o','o','o','o',by simp[vm3],'o'}
     ·exact pn5 _ _ {a,u,x,rfl,'o','o','o','o',g5,'o'}
    ·rintro Z1 st8 ⟨a,u,x,rfl,g1,g2,g3,g4,g5,g9⟩
     simp! [zp1];refine zc9 'z' 'z' 'o' λv5 st9 a5 b5 c5=>?_
     obtain⟨s5,e5,w5⟩:=yx1 a5 b5;simp! [e5,vn0];exact h a u x s5 st9 g1 g2 g3 g4 g5 w5 'o'
structure Tr where
 w:Int
 h:Int
 ways:Str
 s:Int
 x:Int
 y:Int
instance Tr.kind(t:Tr):D:=kd t.w t.h t.ways t.s
instance Tr.place(t:Tr):D:=vc0 (t.x,t.y)
instance Tr.cells(t:Tr):List vc2:=cov t.w t.h (t.x,t.y)
structure vw5(A5 A4:Int)(sh:List vc2)(t:Tr):Prop where
 w1:1<=t.w
 h1:1<=t.h
 x0:0<=t.x
 xw:t.x+t.w<=A5
 y0:0<=t.y
 yh:t.y+t.h<=A4
 ways:vm3 t.ways
 st:t.s=0\/t.s=1\/t.s=-1
 free:∀c∈t.cells,c∉sh
structure zd6(A5 A4:Int)(sh:List vc2)(ts:List Tr):Prop where
 w1:1<=A5
 w9:A5<=9
 h1:1<=A4
 h9:A4<=9
 sub:sh.Sublist (cov A5 A4 (0,0))
 few:ts.length<=12
 tr:∀t∈ts,vw5 A5 A4 sh t
 apart:ts.Pairwise λa b=>∀c∈a.cells,c∉b.cells
instance vc5(A5 A4:Int)(sh:List vc2)(ts:List Tr):D:=.tup [.int A5,.int A4,.tup (sh.map vc0),.tup (ts.map Tr.kind)]
instance zb2(ts:List Tr):D:=.tup (ts.map Tr.place)
def zp5(t:Tr):t.kind.imm=true:=xv5
def zk2(t:Tr):t.place.imm=true:=zc4 _
instance ck(c:vc2):List vc6:=[.inl c.1,.inl c.2]
def zr7(c:vc2):zc0 (vc0 c)=some (ck c):=rfl
def wk1(h:ck a=ck b):a=b:=by
 unfold ck at h;have h1:a.1=b.1/\a.2=b.2:=by simpa using h
 exact Prod.ext h1.1 h1.2
instance inT(T:List vc2)(k:List vc6):Prop:=∃c∈T,ck c=k
def wy9:inT T (ck c)↔c∈T:={λ⟨d,hd,e⟩=>by rw[<-wk1 e];exact hd,λh=>⟨c,h,rfl⟩}
def yg6{w h:Int}(hw:w<=9)(hh:h<=9):(cov w h p).length<=81:=by
 rw[xm0];exact zy5 (c:=9) (d:=9) 'o' 'o'
instance uk1(T:List vc2):D->D
 | .tup [.int x,.int y]=>.bl (decide ((x,y)∈T))
 | _=>.non
def wf3(T:List vc2)(l:List vc2):(l.map vc0).map (uk1 T)=l.map λc=>.bl (decide (c∈T)):=by rw[Bq0];rfl
instance vg4(A5 A4:Int)(ts:List Tr):Int:=ts.foldr (λt r=>zk1 A5 A4 t.w t.h t.ways*r) 1
theorem yi6{A5 A4:Int}:∀{ts:List Tr},vg4 A5 A4 (ts++[t])=vg4 A5 A4 ts*zk1 A5 A4 t.w t.h t.ways
 | []=>by simp[vg4]
 | u::ts=>by
   show zk1 A5 A4 u.w u.h u.ways*vg4 A5 A4 (ts++[t])=zk1 A5 A4 u.w u.h u.ways*vg4 A5 A4 ts*zk1 A5 A4 t.w t.h t.ways;rw[yi6,Int.mul_assoc]
instance vv5:List D->Dr->Res Dr D:=vp8 17 3 (zv2 xo5 zx6 vg3 vv3 vt5).1
instance vl7(d:D):D:=.tup [d,.bl true]
theorem xk7(l:List vc2):zt7 ((l.map vc0).map vl7)=some (l.map λc=>(ck c,.bl true)):=by
 induction l with
 | nil=>rfl
 | cons c l ih=>
   show zt7 (.tup [vc0 c,.bl true]::(l.map vc0).map vl7)=_;unfold zt7;rw[if_pos (by simp[D.imm]),zr7,ih];rfl
open H in
def wl3{B5:Bool}{much:Int}{st:Dr}{Q:D->Dr->Prop}{E:Exn->Dr->Prop}(hs:st.2<2 ^ 38)(hm1:1<=much)(hm2:much<=1000000000000)(hq:∀A5 A4 sh ts st',zd6 A5 A4 sh ts->vg4 A5 A4 ts<=much->st'.2<=st.2+500->Q (.tup [vc5 A5 A4 sh ts,zb2 ts]) st'):wpR (vv5 [.bl B5,.int much] st) Q E:=by
 refine yc7 rfl 'z' ?_;unfold zv2;dsimp only;simp_all!;simp!;refine wb1 'o' λA5 A4 st1 w1 w9 h1 h9 hb t1=>?_
 simp!;simp_all!;simp! [vn0,vg5];refine zx8 (ways:="none") (s:=0) (p:=(0,0)) 'o' 'o' 'o' 'o' ?_;simp! [zb1 zc4];simp_all!;simp!;have hc81:(cov A5 A4 (0,0)).length<=81:=yg6 w9 h9;refine zs6 (λn acc Z st'=>∃sh x,acc=sh.map vc0/\sh.Sublist ((cov A5 A4 (0,0)).take n)/\Z=[x,Sl.hnd,.bor (.bl B5)]/\st'.2<=st1.2+n) 0 {[],_,rfl,'d',rfl,'d'} (λi d acc Z st' hd hI=>?_) λacc Z st' hI=>?_
 ·obtain⟨sh,x,e1,e2,e3,e4⟩:=hI
  rw[Af0] at hd;cases q:(cov A5 A4 (0,0))[i]? with
  | none=>rw[q] at hd;cases hd
  | some c=>
    rw[q] at hd;cases hd;subst e1 e3;have hi:i<(cov A5 A4 (0,0)).length:=(Ac0.mp q).1;have hsl:=e2.length_le;rw[Be0] at hsl;have tk:(cov A5 A4 (0,0)).take (i+1)=(cov A5 A4 (0,0)).take i++[c]:=by rw[Av0,q];rfl
    rw[Ah0] at e2 e4;refine{_,rfl,?_};simp! [vz2,vu3,yz6];have tk2:∃m:Int,(if B5=true then D.int 20 else D.int 9)=.int m/\0<m/\m<1073741824:=by
     split
     ·exact{_,rfl,'z','z'}
     ·exact{_,rfl,'z','z'}
    obtain⟨m,em,m0,m1⟩:=tk2;rw[em];refine zc9 m0 m1 'o' λv st2 a2 b2 c2=>?_
    simp! [oEq,D.dep,D.eqq,An0,At0];split
    ·refine{zc4 c,lt_size (by rw[Aa0];omega),sh++[c],_,by rw[Ay0];rfl,?_,rfl,'o'}
     rw[tk];exact e2.append (List.Sublist.refl _)
    ·refine{sh,_,rfl,?_,rfl,'o'}
     rw[tk];exact e2.trans (List.sublist_append_left _ _)
 ·obtain⟨sh,x,e1,e2,e3,e4⟩:=hI
  subst e1;rw[Ah0,Aa0,Bd0] at e2;rw[Ah0,Aa0] at e4;have hsh:sh.length<=81:=Ap0 e2.length_le hc81;simp! [zb1 zc4];simp_all!;simp!;refine zi5 vl7 (λZ=>∃x,Z=[x]) {_,rfl} (λd hd Z hI129=>?_) (zj1 (by rw[Aa0];omega)) ?_
  ·obtain⟨x,e⟩:=hI129
   subst e;obtain⟨c,hc,rfl⟩:=Bb0.mp hd;refine{_,rfl,{_,rfl},⟨rfl,rfl⟩,?_};simp! [vg5,zc4,vl7]
  ·have od:vu7 [.lst ((sh.map vc0).map vl7)]=some (.dct (.non::(zi3 (sh.map λc=>(ck c,.bl true)) ([],[])).1) (zi3 (sh.map λc=>(ck c,.bl true)) ([],[])).2):=by
    show (if ((sh.map vc0).map vl7).length<sizeLine then (zt7 ((sh.map vc0).map vl7)).map _ else none)=_;rw[if_pos (lt_size (by simp;omega)),xk7];rfl
   have hh:=Holds.all (ps:=sh.map λc=>(ck c,D.bl true)) (Holds.nil (n:=0)) (λp hp=>by obtain⟨c,_,rfl⟩:=Bb0.mp hp;exact imm_bl);have hT:Holds (.dct (.non::(zi3 (sh.map λc=>(ck c,.bl true)) ([],[])).1) (zi3 (sh.map λc=>(ck c,.bl true)) ([],[])).2) sh.length (inT sh):=hh.imp 'd' λk=>by
    simp only[false_or,Bb0,inT];constructor
    ·rintro ⟨p,⟨c,hc,rfl⟩,e⟩;exact⟨c,hc,e⟩
    ·rintro ⟨c,hc,e⟩;exact{_,⟨c,hc,rfl⟩,e}
   rw[od];generalize D.dct (.non::(zi3 (sh.map λc=>(ck c,.bl true)) ([],[])).1) (zi3 (sh.map λc=>(ck c,.bl true)) ([],[])).2=tk at hT;have fl:=hT.flat;simp! [fl];simp_all!;simp! [vh3];simp_all!;simp! [vh3];simp_all!;simp!;simp_all!;simp!;refine zc9 'z' 'z' 'o' λv2 st2 a2 b2 c2=>?_
   have hmany:∃many:Int,(if B5=true then D.int 30 else D.int (2+v2))=.int many/\0<=many/\many<=30:=by
    split
    ·exact{_,rfl,'o','o'}
    ·exact{_,rfl,'o','o'}
   obtain⟨many,em,hm0,hm3⟩:=hmany;simp! [ve7,vg7,vz2,vu3,yz6,em];rw[zh2 'o' hm0];refine zf1 (λi Z st''=>∃(ts:List Tr) (T:List vc2) (tk:D) (C5:Int) (y11 y12 y13 y14 y15 y16:Sl),Z=[Sl.hnd,.bor (.bl B5),.bor (.int much),.bor (.int A5),.bor (.int A4),.own (.lst ((cov A5 A4 (0,0)).map vc0)),.own (.lst (sh.map vc0)),.own tk,.own (.lst (ts.map Tr.kind)),.own (.lst (ts.map Tr.place)),.bor (.int C5),y11,y12,y13,y14,y15,y16]/\zd6 A5 A4 sh ts/\Holds tk (81+81*i) (inT T)/\(∀c,c∈T↔c∈sh\/∃t∈ts,c∈t.cells)/\1<=C5/\C5<=much/\C5=vg4 A5 A4 ts/\st''.2<=st2.2+13*i) 0 {[],sh,tk,1,_,_,_,_,_,_,rfl,{w1,w9,h1,h9,e2,'d',λt ht=>(by cases ht),List.Pairwise.nil},hT.imp 'o' λ_=>Iff.rfl,'d','o','o',rfl,'d'} (λi d Z st'' hd hI P pn=>?_) λZ st'' hI=>?_
   ·obtain⟨ts,T,tk,C5,y11,y12,y13,y14,y15,y16,er,ho,hT,hc,hr1,hr2,hrr,hst⟩:=hI
    obtain⟨rfl,hi⟩:=zf8 hd;subst er;rw[Ah0] at hT hst;have hb2:st''.2<2 ^ 38+1000:=by omega
    have hi30:i<30:=by omega
    clear hs t1 e4 c2 a2 b2 hm0 hm3 hi em;refine{_,rfl,?_};simp_all!;simp!;refine wl1 'o' w1 w9 h1 h9 hb λa u ways s st3 g1 g2 g3 g4 g5 g6 t3=>?_
    have kf:(kd a u ways s).flat=false:=rfl;simp! [kf];simp_all!;simp! [kd,oIx,at0,at1,vg7,ve7];refine zc9 'o' 'o' 'o' λx st4 a4 b4 c4=>?_
    refine zc9 'o' 'o' 'o' λy st5 a5 b5 c5=>?_
    simp! [vg5];simp_all!;simp!;refine zx8 (p:=(x,y)) 'o' 'o' 'o' 'o' ?_;simp! [zb1 zc4];simp_all!;simp!;refine wk8 'o' 'o' 'o' 'o' g5 ?_;have hroom:1<=zk1 A5 A4 a u ways/\zk1 A5 A4 a u ways<=81:=by
     have z1:1<=A5-a+1/\A5-a+1<=9:=by omega
     have z2:1<=A4-u+1/\A4-u+1<=9:=by omega
     unfold zk1;split
     ·constructor
      ·have:=Int.mul_le_mul z1.1 z2.1 'o' 'o';omega
      ·have:=Int.mul_le_mul z1.2 z2.2 'o' 'o';omega
     ·split
      ·omega
      ·split<;>omega
    generalize hrm:zk1 A5 A4 a u ways=room at hroom;have hown:(cov a u (x,y)).length<=81:=yg6 'o' 'o';have cm:vo0 C5 room:=.inr {'o','o'};simp! [vo2,Aa0,vg7,zw3 cm];split
    ·rename_i hlen
     have hlen:ts.length<12:=by have:=of_decide_eq_true hlen;omega
     split
     ·rename_i hle
      have hle:C5*room<=much:=of_decide_eq_true hle;refine zi5 (uk1 T) (λZ=>∃x,Z=[x,.bor tk]) {_,rfl} (λd hd Z hI130=>?_) (zj1 (by rw[Aa0];omega)) ?_
      ·obtain⟨x',e⟩:=hI130
       subst e;obtain⟨c,hc',rfl⟩:=Bb0.mp hd;refine{_,rfl,{_,rfl},⟨rfl,rfl⟩,?_};simp! [(hT.in_ (zr7 c) (b:=decide (c∈T)) (by rw[decide_eq_true_eq,wy9])).1];rfl
      ·rw[wf3]
       simp! [xe1,zu9,At0];split
       ·rename_i hany
        have hfree:∀c∈cov a u (x,y),c∉T:=λc hc' hcT=>by
         have:(List.map (λc=>decide (c∈T)) (cov a u (x,y))).any id=true:=by
          rw[List.any_map,List.any_eq_true];exact{c,hc',by simpa using hcT}
         rw[this] at hany;cases hany
        have hpos:1<=C5*room:=by have:=Int.mul_le_mul hr1 hroom.1 'o' 'o';omega
        simp_all!;simp! [zw3 cm];simp_all!;simp! [vd8,zb1 zp5];refine{_,zu5 (by simp[D.imm,D.immL]) (by rw[Aa0];omega),?_};simp_all!;simp! [vd8,zb1 zk2];refine{_,zu5 (by simp[D.imm,D.immL]) (by rw[Aa0];omega),?_};simp!;refine zf1 (λj Z st''=>∃(tk':D) (y16:Sl),Z=[Sl.hnd,.bor (.bl B5),.bor (.int much),.bor (.int A5),.bor (.int A4),.own (.lst ((cov A5 A4 (0,0)).map vc0)),.own (.lst (sh.map vc0)),.own tk',.own (.lst (ts.map Tr.kind++[D.tup [.int a,.int u,.str ways,.int s]])),.own (.lst (ts.map Tr.place++[D.tup [.int x,.int y]])),.bor (.int (C5*room)),.bor (.int (0+(i:Int))),.bor (D.tup [.int a,.int u,.str ways,.int s]),.bor (D.tup [.int x,.int y]),.bor (.lst ((cov a u (x,y)).map vc0)),.bor (.int room),y16]/\Holds tk' (81+81*i+j) (inT (T++(cov a u (x,y)).take j))/\st''=st5) 0 {tk,_,rfl,by simpa using hT,rfl} (λj d Z st'' hd hI P2 pn2=>?_) λZ st'' hI=>?_
        ·obtain⟨tk',y16,er,hT',es⟩:=hI
         rw[Af0] at hd;cases q:(cov a u (x,y))[j]? with
         | none=>rw[q] at hd;cases hd
         | some c=>
           rw[q] at hd;cases hd;subst er es;have hj:j<(cov a u (x,y)).length:=(Ac0.mp q).1;obtain⟨ks,vs,rfl,k1,k2,k3,k4⟩:=id hT';refine{_,rfl,?_};simp! [vi0,k1,zr7];refine{ks,vs,rfl,xf0 'o',pn2 _ _ {_,_,rfl,?_,rfl}};refine(hT'.put (k:=ck c) (v:=.bl true) imm_bl).imp 'o' λk=>?_
           rw[Ah0,Av0,q];simp only[inT,Ar0,Option.toList,Al0];constructor
           ·rintro (⟨c',h1,h2⟩ | h)
            ·exact{c',by rcases h1 with h1 | h1<;>simp[h1],h2}
            ·exact{c,'d',h}
           ·rintro ⟨c',h1,h2⟩
            rcases h1 with h1 | h1 | h1
            ·exact .inl {c',.inl h1,h2}
            ·exact .inl {c',.inr h1,h2}
            ·subst h1;exact .inr h2
        ·obtain⟨tk',y16,er,hT',es⟩:=hI
         subst er es;rw[Ah0,Aa0,Bd0] at hT';have hnew:vw5 A5 A4 sh ⟨a,u,ways,s,x,y⟩:={g1,g3,a4,by show x+a<=A5;omega,a5,by show y+u<=A4;omega,g5,g6,λc hc' hcs=>hfree c hc' ((hc c).mpr (.inl hcs))};refine pn _ _ {ts++[⟨a,u,ways,s,x,y⟩],T++cov a u (x,y),tk',C5*room,.bor (.int (0+(i:Int))),.bor (D.tup [.int a,.int u,.str ways,.int s]),.bor (D.tup [.int x,.int y]),.bor (.lst ((cov a u (x,y)).map vc0)),.bor (.int room),y16,?_,{w1,w9,h1,h9,ho.sub,by rw[Ak0];simp;omega,λt ht=>?_,?_},hT'.imp 'o' λ_=>Iff.rfl,λc=>?_,hpos,hle,by rw[yi6,hrr];exact hrm▸rfl,'o'}
         ·rw[Ay0,Ay0];rfl
         ·rcases Ar0.mp ht with ht | ht
          ·exact ho.tr t ht
          ·rw[Al0.mp ht];exact hnew
         ·refine Bl0.mpr {ho.apart,Cu0 _ _,λt ht t' ht' c hc1 hc2=>?_}
          rw[Al0.mp ht'] at hc2;exact hfree c hc2 ((hc c).mpr (.inr ⟨t,ht,hc1⟩))
         ·rw[Ar0,hc c]
          constructor
          ·rintro ((h | ⟨t,ht,h⟩) | h)
           ·exact .inl h
           ·exact .inr {t,by simp[ht],h}
           ·exact .inr {⟨a,u,ways,s,x,y⟩,'d',h}
          ·rintro (h | ⟨t,ht,h⟩)
           ·exact .inl (.inl h)
           ·rcases Ar0.mp ht with ht | ht
            ·exact .inl (.inr ⟨t,ht,h⟩)
            ·rw[Al0.mp ht] at h;exact .inr h
       ·exact pn _ _ {ts,T,tk,C5,_,_,_,_,_,_,rfl,ho,hT.imp 'o' λ_=>Iff.rfl,hc,hr1,hr2,hrr,'o'}
     ·exact pn _ _ {ts,T,tk,C5,_,_,_,_,_,_,rfl,ho,hT.imp 'o' λ_=>Iff.rfl,hc,hr1,hr2,hrr,'o'}
    ·exact pn _ _ {ts,T,tk,C5,_,_,_,_,_,_,rfl,ho,hT.imp 'o' λ_=>Iff.rfl,hc,hr1,hr2,hrr,'o'}
   ·obtain⟨ts,T,tk,C5,y11,y12,y13,y14,y15,y16,er,ho,hT,hc,hr1,hr2,hrr,hst⟩:=hI
    subst er;rw[zd8,Ah0] at hst;simp! [yi9,zb1 zc4,zb1 zp5,zb1 zk2,vn0,vg5];exact hq A5 A4 sh ts st'' ho (hrr▸hr2) 'o'
instance dx(d:Int):Int:=if d=0 then 1 else if d=2 then -1 else 0
instance dy(d:Int):Int:=if d=1 then 1 else if d=3 then -1 else 0
instance Dir(d:Int):Prop:=0<=d/\d<4
def Dir.cases{d:Int}(h:Dir d):d=0\/d=1\/d=2\/d=3:=by obtain⟨h1,h2⟩:=h;omega
instance ve3(ways:Str)(d:Int):Bool:=ways == "any"||ways == (if d % 2=0 then "row" else "column")
instance Tr.ahead(t:Tr)(d:Int):List vc2:=cov t.w t.h (t.x+dx d,t.y+dy d)
instance Tr.to(t:Tr)(d:Int):Tr:={ t with x:=t.x+dx d,y:=t.y+dy d }
instance okT(A5 A4:Int)(sh:List vc2)(t:Tr)(d:Int):Prop:=ve3 t.ways d=true/\∀c∈t.ahead d,c∉sh/\0<=c.1/\c.1<A5/\0<=c.2/\c.2<A4
instance hit(t u:Tr)(d:Int):Prop:=∃c∈u.cells,c∈t.ahead d
inductive vk2(ts:List Tr)(d:Int)(n:Nat):Nat->Prop where
 | self:vk2 ts d n n
 | more {m k:Nat} {t u:Tr}:vk2 ts d n m->ts[m]?=some t->ts[k]?=some u->hit t u d->vk2 ts d n k
theorem yf0(c:vc2):∀l:List vc2,inD (vc0 c) (l.map vc0)=some (decide (c∈l))
 | []=>by simp[inD]
 | a::l=>by
   show ((D.eqq (vc0 a) (vc0 c)).bind λb=>(inD (vc0 c) (l.map vc0)).map λx=>b||x)=_;rw[yf0 c l];have e:D.eqq (vc0 a) (vc0 c)=some (decide (a=c)):=by
    show (D.eqq (.int a.1) (.int c.1)).bind (λx=>(D.eqL [.int a.2] [.int c.2]).map λy=>x&&y)=_;rw[yo4];show (D.eqL [.int a.2] [.int c.2]).map (λy=>(a.1 == c.1)&&y)=_;show ((D.eqq (.int a.2) (.int c.2)).bind (λx=>(D.eqL [] []).map λy=>x&&y)).map (λy=>(a.1 == c.1)&&y)=_;rw[yo4];show some ((a.1 == c.1)&&((a.2 == c.2)&&true))=_;rw[Option.some.injEq,Bool.eq_iff_iff];simp[Prod.ext_iff]
   rw[e];simp only[Bu0,At0,Option.some.injEq];by_cases h:a=c
   ·subst h;simp
   ·have h':c≠a:=λz=>h z.symm
    simp[h,h',Aj0]
theorem xf6(k:Nat):∀l:List Nat,inD (.int k) (l.map λj:Nat=>D.int j)=some (decide (k∈l))
 | []=>by simp[inD]
 | a::l=>by
   show ((D.eqq (.int a) (.int k)).bind λb=>(inD (.int k) (l.map λj:Nat=>D.int j)).map λx=>b||x)=_;rw[xf6 k l];simp only[yo4,Bu0,At0,Option.some.injEq];by_cases h:a=k
   ·subst h;simp
   ·have h':k≠a:=λz=>h z.symm
    have h'':((a:Int) == (k:Int))=false:=by rw[beq_eq_false_iff_ne];omega
    rw[h''];simp[h',Aj0]
def xs4{neg:Bool}{c:vc2}{l:List vc2}:oIn neg (vc0 c) (.tup (l.map vc0))=some (.bl (if neg then !decide (c∈l) else decide (c∈l)))/\oIn neg (vc0 c) (.lst (l.map vc0))=some (.bl (if neg then !decide (c∈l) else decide (c∈l))):=by
 have hd:D.depL (l.map vc0)<=30:=Ap0 (zp7 xh8 l) 'z';constructor
 ·show (if D.depL (l.map vc0)<=30 then (inD (vc0 c) (l.map vc0)).map λx=>D.bl (if neg then !x else x) else none)=_
  rw[if_pos hd,yf0];rfl
 ·show (if D.depL (l.map vc0)<=30 then (inD (vc0 c) (l.map vc0)).map λx=>D.bl (if neg then !x else x) else none)=_
  rw[if_pos hd,yf0];rfl
def xe0{neg:Bool}{k:Nat}{l:List Nat}:oIn neg (.int k) (.lst (l.map λj:Nat=>D.int j))=some (.bl (if neg then !decide (k∈l) else decide (k∈l))):=by
 have hd:D.depL (l.map λj:Nat=>D.int j)<=30:=Ap0 (zp7 (n:=0) (λa=>by simp[D.dep]) l) 'z';show (if D.depL (l.map λj:Nat=>D.int j)<=30 then (inD (.int k) (l.map λj:Nat=>D.int j)).map λx=>D.bl (if neg then !x else x) else none)=_;rw[if_pos hd,xf6];rfl
def xf9{ts:List Tr}{m:Nat}{t:Tr}(h:ts[m]?=some t):oIx (.tup (ts.map Tr.kind)) (.int m)=some t.kind:=(xv9 (zp5 t) 'o' (by rw[Bp0,Af0,h];rfl)).2
def yf3{ts:List Tr}{m:Nat}{t:Tr}(h:ts[m]?=some t):oIx (.tup (ts.map Tr.place)) (.int m)=some t.place:=(xv9 (zk2 t) 'o' (by rw[Bp0,Af0,h];rfl)).2
instance ve1(g:List Nat):List D:=g.map λj:Nat=>D.int j
def zs9(g:List Nat):D.immL (ve1 g)=true:=zb1 (λa=>imm_int) g
structure Cfg(A5 A4:Int)(sh:List vc2)(ts:List Tr):Prop where
 few:ts.length<=12
 sh:sh.length<=81
 wh:∀t∈ts,0<=t.w/\t.w<=9/\0<=t.h/\t.h<=9
def we2{g:List Nat}{j m:Nat}(h:g[j]?=some m):oIx (.lst (ve1 g)) (.int j)=some (.int m):=(xv9 imm_int 'o' (by rw[Bp0];unfold ve1;rw[Af0,h];rfl)).1
def yz7(g:List Nat):zu1 (ve1 g)=some (g.map λj:Nat=>(j:Int)):=yj8 (f:=λj:Nat=>(j:Int)) g
open H in
def xo3(g:List Nat):∃g':List Nat,(sortI (g.map λj:Nat=>(j:Int))).map D.int=ve1 g'/\g'.Perm g/\g'.Pairwise (·<=·):=by
 have hp:=PySem.W.sortI_perm (g.map λj:Nat=>(j:Int));have hr:=PySem.W.sortI_rises (g.map λj:Nat=>(j:Int));have hm:∀i∈sortI (g.map λj:Nat=>(j:Int)),((i.toNat:Nat):Int)=i:=λi hi=>by
  obtain⟨j,_,e⟩:=Bb0.mp (hp.mem_iff.mp hi);omega
 refine{(sortI (g.map λj:Nat=>(j:Int))).map Int.toNat,?_,?_,?_}
 ·unfold ve1
  rw[Bq0];refine List.map_congr_left λi hi=>?_
  show D.int i=D.int ((i.toNat:Nat):Int);rw[hm i hi]
 ·have:=hp.map Int.toNat
  rw[Bq0] at this;refine this.trans (List.Perm.of_eq ?_);rw[show (Int.toNat ∘ λj:Nat=>(j:Int))=id from funext λj=>Bp0 j,List.map_id]
 ·rw[List.pairwise_map]
  exact hr.imp λh=>Int.toNat_le_toNat h
instance wa7(A5 A4:Int)(sh:List vc2)(ts:List Tr)(d:Int)(n:Nat)(t:Tr):Prop:=
 t.s<0\/(∃m t',vk2 ts d n m/\ts[m]?=some t'/\¬okT A5 A4 sh t' d)\/(t.s=0/\∃m,m≠n/\vk2 ts d n m)
structure ve8(A5 A4:Int)(sh:List vc2)(ts:List Tr)(d:Int)(n:Nat)(g:List Nat):Prop where
 nd:g.Nodup
 up:g.Pairwise (·<=·)
 all:∀m,m∈g↔vk2 ts d n m
 lt:∀m∈g,m<ts.length
 ok:∀m∈g,∀t,ts[m]?=some t->okT A5 A4 sh t d
 str:∀t,ts[n]?=some t->¬t.s<0/\(t.s=0->∀m∈g,m=n)
theorem zs8:∀(N:Nat) (g:List Nat),g.Nodup->(∀m∈g,m<N)->g.length<=N
 | 0,g,_,h=>by
   cases g with
   | nil=>exact Ae0 _
   | cons a g=>exact absurd (h a 'd') (Nat.not_lt_zero _)
 | N+1,g,nd,h=>by
   by_cases hN:N∈g
   ·have h1:=zs8 N (g.erase N) (nd.erase N) λm hm=>by
     have:=h m (List.mem_of_mem_erase hm);have h2:m≠N:=λz=>by subst z;exact(List.Nodup.not_mem_erase nd) hm
     omega
    rw[List.length_erase_of_mem hN] at h1;omega
   ·have h1:=zs8 N g nd λm hm=>by
     have:=h m hm;have h2:m≠N:=λz=>by subst z;exact hN hm
     omega
    omega
instance yk0(A5 A4:Int)(c:vc2):Bool:=(decide (0<=c.1)&&decide (c.1<A5))&&(decide (0<=c.2)&&decide (c.2<A4))
instance ze9(ts:List Tr)(g:List Nat)(d:Int):List Tr:=ts.mapIdx λi t=>if i∈g then t.to d else t
def zg0{g:List Nat}{d:Int}{i:Nat}:(ze9 ts g d)[i]?=(ts[i]?).map λt=>if i∈g then t.to d else t:=by
 unfold ze9;rw[List.getElem?_mapIdx]
def zj0{g:List Nat}{d:Int}:(ze9 ts g d).length=ts.length:=by unfold ze9;simp
def xk9{d:Int}:ze9 ts [] d=ts:=by
 apply Ck0;intro i;rw[zg0];cases ts[i]?<;>simp
theorem yy7{g:List Nat}{d:Int}:(ze9 ts g d).map Tr.kind=ts.map Tr.kind:=by
 apply Ck0;intro i;rw[Af0,Af0,zg0];cases ts[i]? with
 | none=>rfl
 | some t=>by_cases h:i∈g<;>simp[h]<;>rfl
def zh4{A5 A4:Int}{sh:List vc2}{ts ts':List Tr}(h:ts'.map Tr.kind=ts.map Tr.kind):vc5 A5 A4 sh ts'=vc5 A5 A4 sh ts:=by unfold vc5;rw[h]
def xk8{g:List Nat}{d:Int}{k:Nat}(hk:ts[k]?=some t):((ze9 ts g d).map Tr.place).set k (t.to d).place=(ze9 ts (g++[k]) d).map Tr.place:=by
 apply Ck0;intro i;rw[List.getElem?_set,Af0,Af0,zg0,zg0,Aa0,zj0];have hkl:k<ts.length:=(Ac0.mp hk).1;by_cases h:k=i
 ·subst h
  rw[if_pos rfl,if_pos hkl,hk];simp
 ·rw[if_neg h]
  cases ts[i]? with
  | none=>rfl
  | some u=>
    have h':i≠k:=λz=>h z.symm
    simp[h']
inductive vd6(A5 A4:Int)(sh:List vc2)(d:Int)(n:Nat)(ts:List Tr):Nat->List Tr->Prop where
 | zero:vd6 A5 A4 sh d n ts 0 ts
 | succ {k:Nat} {ts':List Tr} {g:List Nat}:vd6 A5 A4 sh d n ts k ts'->ve8 A5 A4 sh ts' d n g->vd6 A5 A4 sh d n ts (k+1) (ze9 ts' g d)
theorem vd6.len{A5 A4:Int}{sh:List vc2}{d:Int}{n:Nat}{ts ts':List Tr}{k:Nat}(h:vd6 A5 A4 sh d n ts k ts'):ts'.length=ts.length:=by
 induction h with
 | zero=>rfl
 | succ _ _ ih=>rw[zj0];exact ih
theorem vd6.kind{A5 A4:Int}{sh:List vc2}{d:Int}{n:Nat}{ts ts':List Tr}{k:Nat}(h:vd6 A5 A4 sh d n ts k ts'):ts'.map Tr.kind=ts.map Tr.kind:=by
 induction h with
 | zero=>rfl
 | succ _ _ ih=>rw[yy7];exact ih
instance vj7(n:Nat)(d many:Int):D:=.tup [.int n,.int d,.int many]
instance vj1:Nat->List D->Res Unit D
 | 0=>uk8
 | n+1=>dfn 2 2 (zj3 (vj1 n)).1
def ya6{n:Nat}{d1 d2:D}{l:List D}{b:Bool}{Q:D->Unit->Prop}{E:Exn->Unit->Prop}(n2:d2.isNon=false)(c2:isI .dict d2=false)(l1:isI .list d1=b)(l2:isI .list d2=b)(t1:isI .tuple d1=!b)(t2:isI .tuple d2=!b)(s1:vo2 [d1]=some (.int l.length))(s2:vo2 [d2]=some (.int l.length))(z:uj7 [d1,d2]=some (vh2 l l))(ih:∀x∈l,∀{Q:D->Unit->Prop} {E:Exn->Unit->Prop},Q (.bl true) ()->wpR (vj1 n [x,x]) Q E)(hz:l.length<=sizeLine)(h:Q (.bl true) ()):wpR (vj1 (n+1) [d1,d2]) Q E:=by
 refine zg3 rfl 'z' ?_;unfold zj3;dsimp only;rw  [zb6];simp! [vl0,n2];rw  [zb6];simp! [c2];cases b<;>(
  rw  [zb6];simp! [l1,l2,t1,t2];rw  [zb6];simp! [l1,l2,oEq,D.dep,D.eqq,An0,At0,Aq1];rw  [zb6];simp! [t1,t2,s1,s2,oEq,D.dep,D.eqq,An0,At0,Aq1];simp! [z];refine zi5 (λ_=>.bl true) (λZ=>∃x y,Z=[x,y]) {_,_,rfl} (λd hd Z hI131=>?_) (by unfold vh2;rw[List.length_zipWith];omega) ?_
  ·obtain⟨x,y,e⟩:=hI131
   subst e;obtain⟨x,hx',rfl⟩:=xr4 hd;refine{_,rfl,{_,_,rfl},⟨rfl,rfl⟩,?_};simp?! [zb6];exact ih x hx' (by first | exact rfl | exact⟨rfl,rfl⟩ | exact⟨rfl,rfl,rfl⟩)
  ·simp?! [xe1,wg6,At0,zb6]
   rw[show ((vh2 l l).map λ_=>true).all id=true by simp];exact h)
theorem xm6:∀(n:Nat) {d:D} {Q:D->Unit->Prop} {E:Exn->Unit->Prop},d.dep<n->d.lw=true->Q (.bl true) ()->wpR (vj1 n [d,d]) Q E
 | 0,d,Q,E,h,_,_=>absurd h (Nat.not_lt_zero _)
 | n+1,d,Q,E,hd,hp,h=>by
   have sub:∀{l:List D},D.lwL l=true->D.depL l<n->∀x∈l,∀{Q:D->Unit->Prop} {E:Exn->Unit->Prop},Q (.bl true) ()->wpR (vj1 n [x,x]) Q E:=λ{l} hp' hd x hx=>xm6 n (Nat.lt_of_le_of_lt (xy7 hx) hd) (yn4.mp hp' x hx)
   have sp:∀{l:List D},(D.lwL l&&decide (l.length<=sizeLine))=true->D.lwL l=true/\l.length<=sizeLine:=λhp=>by simpa using hp
   cases d with
   | bl b=>simp[D.lw] at hp
   | dct k v=>simp[D.lw] at hp
   | fd _ _=>simp[D.lw] at hp
   | tup l=>exact ya6 rfl rfl rfl rfl rfl rfl rfl rfl rfl (sub (sp hp).1 (Nat.lt_of_succ_lt_succ hd)) (sp hp).2 h
   | lst l=>exact ya6 rfl rfl rfl rfl rfl rfl rfl rfl rfl (sub (sp hp).1 (Nat.lt_of_succ_lt_succ hd)) (sp hp).2 h
   | fl l=>exact ya6 rfl rfl rfl rfl rfl rfl rfl rfl rfl (sub (sp hp).1 (Nat.lt_of_succ_lt_succ hd)) (sp hp).2 h
   | non=>
     refine zg3 rfl 'z' ?_;unfold zj3;dsimp only;rw  [zb6];simp! [vl0,D.isNon];exact h
   | int i=>
     refine zg3 rfl 'z' ?_;unfold zj3;dsimp only;rw  [zb6];simp! [vl0,D.isNon,isI];rw  [zb6];simp! [vl0,D.isNon,isI];rw  [zb6];simp! [vl0,D.isNon,isI];rw  [zb6];simp! [vl0,D.isNon,isI];simp! [isI,oEq,D.dep,D.eqq,Aq1,At0,An0];exact h
   | str i=>
     refine zg3 rfl 'z' ?_;unfold zj3;dsimp only;rw  [zb6];simp! [vl0,D.isNon,isI];rw  [zb6];simp! [vl0,D.isNon,isI];rw  [zb6];simp! [vl0,D.isNon,isI];rw  [zb6];simp! [isI,oEq,D.dep,D.eqq,Aq1,At0,An0];exact h
def xm5{n:Nat}{l:List D}{Q:D->Unit->Prop}{E:Exn->Unit->Prop}(hd:D.depL l<n)(hp:D.lwL l=true)(hz:l.length<=sizeLine)(h:Q (.bl true) ()):wpR (vj1 (n+1) [.fl l,.lst l]) Q E:=
 ya6 rfl rfl rfl rfl rfl rfl rfl rfl rfl (λx hx=>xm6 n (Nat.lt_of_le_of_lt (xy7 hx) hd) (yn4.mp hp x hx)) hz h
instance vp0:List D->Res Unit D:=dfn 6 2 yg5.1
def xm9{w h:Int}{ways:Str}{s:Int}(hw:w<=30)(hh:h<=30)(h0:0<=w)(h1:0<=h)(hq:Q (.lst ((cov w h p).map vc0)) ()):wpR (vp0 [kd w h ways s,vc0 p]) Q E:=by
 refine zg3 rfl 'z' ?_;unfold yg5;dsimp only;simp_all!;simp! [vc0];simp_all!;simp! [vh3];simp_all!;simp! [kd,oIx,at0,at1];rw[zh2 'o' h0];refine zf1 (λi Z st'=>∃x,Z=[.bor (kd w h ways s),.bor (vc0 p),.bor (.int p.1),.bor (.int p.2),.own (.lst (((List.range i).flatMap (vm2 h p)).map vc0)),x]) 0 {_,rfl} (λi d Z st' hd hI P pn=>?_) λZ st' hI=>?_
 ·obtain⟨x,e⟩:=hI
  obtain⟨rfl,hi⟩:=zf8 hd;subst e;have him:∀i:Nat,D.immL (((List.range i).flatMap (vm2 h p)).map vc0)=true:=λi=>zb1 zc4 _
  refine{_,rfl,?_};simp! [vd8,him,kd,oIx,at0,at1];rw[zh2 'o' h1];refine zi5 (λd=>match d with | .int j=>vc0 (p.1+(i:Int),p.2+j) | _=>.non) (λZ=>∃x,Z=[x,.bor (.int p.1),.bor (.int (0+(i:Int))),.bor (.int p.2)]) {_,rfl} (λd hd Z hI132=>?_) (zj1 (by rw[zd8];omega)) ?_
  ·obtain⟨x,e⟩:=hI132
   subst e;obtain⟨j,hj⟩:=Bt0 hd;obtain⟨rfl,hj'⟩:=zf8 hj;refine{_,rfl,{_,rfl},⟨rfl,rfl⟩,?_};simp! [vc0,ve7,vg7,vg5];simp
  ·have e:(zm0 0 h.toNat).map (λd=>match d with | .int j=>vc0 (p.1+(i:Int),p.2+j) | _=>D.non)=(vm2 h p i).map vc0:=by
    unfold zm0 vm2;rw[Bq0,Bq0];refine List.map_congr_left λj _=>?_
    simp[vc0]
   rw[e];refine{_,yd9 (zb1 zc4 _) ?_,pn _ _ {.bor (.int (0+(i:Int))),?_}}
   ·rw[Aa0,Aa0,List.length_flatMap]
    unfold vm2;simp only[Aa0,Bo0,List.map_const',List.sum_replicate_nat];have:i*h.toNat<=29*30:=zy5 'o' 'o';omega
   ·rw[Cs0,Cl0,Ay0]
    simp[vc0,kd]
 ·obtain⟨x,e⟩:=hI
  subst e;rw[zd8,Ah0];have him:∀i:Nat,D.immL (((List.range i).flatMap (vm2 h p)).map vc0)=true:=λi=>zb1 zc4 _
  simp! [him];exact hq
def yx6{α:Type}{P:List α->Prop}(nil:P [])(append_singleton:∀l a,P l->P (l++[a]))(l:List α):P l:=by
 have h:∀l:List α,P l.reverse:=λl=>by
  induction l with
  | nil=>exact nil
  | cons a l ih=>rw[List.reverse_cons];exact append_singleton _ _ ih
 have:=h l.reverse;rwa [List.reverse_reverse] at this
instance ve5(W:List (vc2×Int))(c:vc2):Option Int:=(W.reverse.find? λp=>decide (p.1=c)).map (·.2)
def xu2:ve5 [] c=none:=rfl
def yj3{v:Int}:ve5 (W++[(c0,v)]) c=if c0=c then some v else ve5 W c:=by
 unfold ve5;rw[List.reverse_append];show ((((c0,v)::W.reverse).find? λp=>decide (p.1=c))).map (·.2)=_;rw[Ct0];by_cases h:c0=c
 ·simp[h]
 ·simp[h]
def xl5(h:∀p∈W,p.1≠c):ve5 W c=none:=by
 unfold ve5;rw[List.find?_eq_none.mpr (λp hp=>by simpa using h p (List.mem_reverse.mp hp))];rfl
def zm4{W V:List (vc2×Int)}{c:vc2}:ve5 (W++V) c=(ve5 V c).or (ve5 W c):=by
 unfold ve5;rw[List.reverse_append,List.find?_append];cases V.reverse.find? (λp=>decide (p.1=c))<;>simp
theorem zu7{l:List vc2}{c:vc2}{v:Int}:ve5 (l.map λq=>(q,v)) c=if c∈l then some v else none:=by
 induction l using yx6 with
 | nil=>rfl
 | append_singleton l a ih=>
   rw[Ay0];show ve5 ((l.map λq=>(q,v))++[(a,v)]) c=_;rw[yj3,ih];by_cases h:a=c
   ·subst h;simp
   ·have h':c≠a:=λz=>h z.symm
    simp[h,h']
theorem yv9:∀{ks vs:List D},ks.length=vs.length->vc1 k ks (List.zipWith (λd u=>if zc0 d=some k' then v else u) ks vs)=if k=k' then (vc1 k ks vs).map λ_=>v else vc1 k ks vs
 | [],[],_=>by simp[vc1]
 | a::ks,b::vs,h=>by
   show vc1 k (a::ks) ((if zc0 a=some k' then v else b)::List.zipWith _ ks vs)=_;unfold vc1;by_cases e:zc0 a=some k
   ·rw[if_pos e,if_pos e,e]
    by_cases z:k=k'
    ·subst z;simp
    ·simp[z]
   ·rw[if_neg e,if_neg e];exact yv9 (by simpa using h)
 | [],_::_,h=>by cases h
 | _::_,[],h=>by cases h
theorem yk3:∀{ks vs:List D},ks.length=vs.length->vc1 k (ks++[vc4 k']) (vs++[v])=(vc1 k ks vs).or (if k'=k then some v else none)
 | [],[],_=>by
   show vc1 k [vc4 k'] [v]=_;unfold vc1;rw[zh3];by_cases e:k'=k
   ·simp[e,vc1]
   ·simp[e,vc1]
 | a::ks,b::vs,h=>by
   show vc1 k (a::(ks++[vc4 k'])) (b::(vs++[v]))=_;unfold vc1;by_cases e:zc0 a=some k
   ·rw[if_pos e,if_pos e];rfl
   ·rw[if_neg e,if_neg e];exact yk3 (by simpa using h)
 | [],_::_,h=>by cases h
 | _::_,[],h=>by cases h
open H in
def wg0(h:ks.length=vs.length):vc1 k (ve4 k' v ks vs).1 (ve4 k' v ks vs).2=if k'=k then some v else vc1 k ks vs:=by
 unfold ve4;split
 ·rename_i hs
  rw[yv9 h];by_cases e:k'=k
  ·subst e
   obtain⟨d,hd⟩:=Option.isSome_iff_exists.mp hs;rw[hd];simp
  ·have e':k≠k':=λz=>e z.symm
   simp[e,e']
 ·rename_i hs
  rw[yk3 h];by_cases e:k'=k
  ·subst e
   have hn:vc1 k' ks vs=none:=by simpa using hs
   rw[hn];simp
  ·simp[e]
instance vh0(d:D)(W:List (vc2×Int)):Prop:=∃ks vs,d=.dct (.non::ks) vs/\D.immL vs=true/\ks.length=vs.length/\ks.length<=W.length/\∀c,vc1 (ck c) ks vs=(ve5 W c).map D.int
def vh0.nil:vh0 (.dct [.non] []) []:={[],[],rfl,rfl,rfl,Ae0 _,λc=>by simp[vc1,xu2]}
def vh0.put{ks vs:List D}{W:List (vc2×Int)}{c0:vc2}{v:Int}(h:vh0 (.dct (.non::ks) vs) W):vh0 (.dct (.non::(ve4 (ck c0) (.int v) ks vs).1) (ve4 (ck c0) (.int v) ks vs).2) (W++[(c0,v)]):=by
 obtain⟨ks',vs',e,h1,h2,h3,h4⟩:=h;cases e;refine{_,_,rfl,zx2 imm_int h1,(yc2 h2).1,by have:=(yc2 (k:=ck c0) (v:=.int v) h2).2;simp;omega,λc=>?_};rw[wg0 h2,yj3,h4 c];by_cases e:c0=c
 ·subst e;simp
 ·have e':ck c0≠ck c:=λz=>e (wk1 z)
  simp[e,e']
def vh0.flat{d:D}{W:List (vc2×Int)}(h:vh0 d W):d.flat=true:=by
 obtain⟨ks,vs,rfl,h1,_⟩:=h;exact h1
instance wr(ts:List Tr):List (vc2×Int):=ts.zipIdx.flatMap λp=>p.1.cells.map λc=>(c,(p.2:Int))
def yw7:wr (ts++[u])=wr ts++u.cells.map λc=>(c,(ts.length:Int)):=by
 unfold wr;rw[List.zipIdx_append,Cl0];simp
instance vj6(sh:List vc2)(ts:List Tr):List (vc2×Int):=(sh.map λc=>(c,-1))++wr ts
def xm3(h:∀t∈ts,c∉t.cells):ve5 (wr ts) c=none:=by
 apply xl5;rintro ⟨q,v⟩ hq;unfold wr at hq;obtain⟨⟨t,i⟩,h1,h2⟩:=Cd0.mp hq;obtain⟨q',h3,h4⟩:=Bb0.mp h2;have ht:t∈ts:=(List.mem_zipIdx h1).2.2▸List.getElem_mem _;intro e;cases h4;exact h t ht (by rw[<-show q=c from e];exact h3)
theorem wk5{m:Nat}(hm:ts[m]?=some t)(hc:c∈t.cells)(ap:ts.Pairwise λa b=>∀c∈a.cells,c∉b.cells):ve5 (wr ts) c=some (m:Int):=by
 induction ts using yx6 with
 | nil=>simp at hm
 | append_singleton ts u ih=>
   rw[yw7,zm4,zu7];obtain⟨a1,_,a3⟩:=Bl0.mp ap;by_cases h:m<ts.length
   ·rw[Br0 h] at hm
    have hcu:c∉u.cells:=a3 t (Am0 hm) u 'd' c hc;rw[if_neg hcu];simp only[Option.none_or];exact ih hm a1
   ·have hml:m=ts.length:=by
     have:=(Ac0.mp hm).1;rw[Ak0] at this;simp at this;omega
    subst hml;rw[Cp0 (Ae0 _)] at hm;simp at hm;subst hm;rw[if_pos hc];rfl
def wa5{A5 A4:Int}(ho:zd6 A5 A4 sh ts){m:Nat}(hm:ts[m]?=some t)(hc:c∈t.cells):ve5 (vj6 sh ts) c=some (m:Int):=by
 unfold vj6;rw[zm4,wk5 hm hc ho.apart];rfl
def vb8{A5 A4:Int}(ho:zd6 A5 A4 sh ts)(hc:c∈sh):ve5 (vj6 sh ts) c=some (-1):=by
 unfold vj6;rw[zm4,xm3 λt ht h=>(ho.tr t ht).free c h hc,zu7,if_pos hc];rfl
def vb9(h1:c∉sh)(h2:∀t∈ts,c∉t.cells):ve5 (vj6 sh ts) c=none:=by
 unfold vj6;rw[zm4,xm3 h2,zu7,if_neg h1];rfl
instance zx3:List D->Res Unit D:=dfn 7 2 (yf2 vp0).1
def ug4{A5 A4:Int}:oIx (vc5 A5 A4 sh ts) (.int 2)=some (.tup (sh.map vc0)):=by
 show im (some (D.tup (sh.map vc0)))=_;simp[im,imm_tup,zb1 zc4 sh]
def hall3'{A5 A4:Int}:oIx (vc5 A5 A4 sh ts) (.int 3)=some (.tup (ts.map Tr.kind)):=by
 show im (some (D.tup (ts.map Tr.kind)))=_;simp[im,imm_tup,zb1 zp5 ts]
theorem ws9(h:∀t∈ts,t.cells.length<=81):(wr ts).length<=81*ts.length:=by
 induction ts using yx6 with
 | nil=>simp[wr]
 | append_singleton ts u ih=>
   rw[yw7,Ak0,Aa0,Ak0];have h1:=ih λt ht=>h t (by simp[ht])
   have h2:=h u 'd';simp only[Ax0,Cn0];omega
def yh7{A5 A4:Int}(hc:Cfg A5 A4 sh ts)(hq:∀d,vh0 d (vj6 sh ts)->Q d ()):wpR (zx3 [vc5 A5 A4 sh ts,zb2 ts]) Q E:=by
 refine zg3 rfl 'z' ?_;unfold yf2;dsimp only;have h81:∀t∈ts,t.cells.length<=81:=λt ht=>yg6 (hc.wh t ht).2.1 (hc.wh t ht).2.2.2
 have few:=hc.few;have shl:=hc.sh;simp_all!;simp!;simp_all!;simp! [ug4];refine zf1 (λi Z st'=>∃(d:D) (x3 x4 x5 x6:Sl),Z=[Sl.bor (vc5 A5 A4 sh ts),.bor (zb2 ts),.own d,x3,x4,x5,x6]/\vh0 d ((sh.take i).map λc=>(c,-1))) 0 {_,_,_,_,_,rfl,vh0.nil} (λi e Z st' he hI P pn=>?_) λZ st' hI=>?_
 ·obtain⟨d,x3,x4,x5,x6,er,hd⟩:=hI
  rw[Af0] at he;cases q:sh[i]? with
  | none=>rw[q] at he;cases he
  | some c=>
    rw[q] at he;cases he;subst er;rw[Ah0] at hd;obtain⟨ks,vs,rfl,k1,k2,k3,k4⟩:=id hd;rw[Aa0,Be0] at k3;refine{_,rfl,?_};simp! [vi0,k1,zr7];refine{ks,vs,rfl,xf0 'o',pn _ _ {_,_,_,_,_,rfl,?_}};rw[Ah0];have:=hd.put (c0:=c) (v:=-1);rwa [show (sh.take i).map (λc=>(c,(-1:Int)))++[(c,-1)]=(sh.take (i+1)).map λc=>(c,(-1:Int)) by rw[Av0,q,Ay0];rfl] at this
 ·obtain⟨d,x3,x4,x5,x6,er,hd⟩:=hI
  subst er;rw[Ah0,Aa0,Bd0] at hd;simp!;simp_all!;have en:vu6 [.tup (ts.map Tr.kind)]=some (yb6 (ts.map Tr.kind)):=if_pos (zb1 zp5 ts);simp! [hall3',en];refine zf1 (λi Z st'=>∃(d:D) (x3 x4 x5 x6:Sl),Z=[Sl.bor (vc5 A5 A4 sh ts),.bor (zb2 ts),.own d,x3,x4,x5,x6]/\vh0 d (vj6 sh (ts.take i))) 0 {_,_,_,_,_,rfl,by unfold vj6 wr;simpa using hd} (λi e Z st' he hI P pn=>?_) λZ st' hI=>?_
  ·obtain⟨d,x3,x4,x5,x6,er,hd⟩:=hI
   obtain⟨kk,hk,rfl⟩:=ys7 he;rw[Af0] at hk;cases q:ts[i]? with
   | none=>rw[q] at hk;cases hk
   | some t=>
     rw[q] at hk;cases hk;subst er;rw[Ah0] at hd;obtain⟨q1,q2,q3,q4⟩:=hc.wh t (Am0 q);have hil:i<ts.length:=(Ac0.mp q).1;refine{_,rfl,?_};simp! [zb2,yf3 q];refine xm9 (p:=(t.x,t.y)) 'o' 'o' q1 q3 ?_;have hcu:cov t.w t.h (t.x,t.y)=t.cells:=rfl;rw[hcu];simp!;refine zf1 (λj Z st'=>∃(d:D) (x3 x6:Sl),Z=[Sl.bor (vc5 A5 A4 sh ts),.bor (zb2 ts),.own d,x3,.bor (.int i),.bor t.kind,x6]/\vh0 d (vj6 sh (ts.take i)++(t.cells.take j).map λc=>(c,(i:Int)))) 0 {_,_,_,rfl,by simpa using hd} (λj e Z st' he hI P2 pn2=>?_) λZ st' hI=>?_
     ·obtain⟨d,x3,x6,er,hd⟩:=hI
      rw[Af0] at he;cases q5:t.cells[j]? with
      | none=>rw[q5] at he;cases he
      | some c=>
        rw[q5] at he;cases he;subst er;rw[Ah0] at hd;obtain⟨ks,vs,rfl,k1,k2,k3,k4⟩:=id hd;have w1:=ws9 (ts:=ts.take i) λt ht=>h81 t (List.mem_of_mem_take ht)
        have w2:=h81 t (Am0 q);have kl:ks.length<=3000:=by
         unfold vj6 at k3;rw[Ak0,Ak0,Aa0,Aa0,Be0] at k3;rw[Be0] at w1;omega
        refine{_,rfl,?_};simp! [vi0,k1,zr7];refine{ks,vs,rfl,xf0 'o',pn2 _ _ {_,_,_,rfl,?_}};rw[Ah0];have:=hd.put (c0:=c) (v:=i);rwa [show vj6 sh (ts.take i)++(t.cells.take j).map (λc=>(c,(i:Int)))++[(c,(i:Int))]=vj6 sh (ts.take i)++(t.cells.take (j+1)).map λc=>(c,(i:Int)) by rw[Av0,q5,Ay0,Ao0];rfl] at this
     ·obtain⟨d,x3,x6,er,hd⟩:=hI
      subst er;rw[Ah0,Aa0,Bd0] at hd;refine pn _ _ {d,_,_,_,_,rfl,?_};rw[Ah0];have e1:vj6 sh (ts.take (i+1))=vj6 sh (ts.take i)++t.cells.map λc=>(c,(i:Int)):=by
       unfold vj6;rw[Av0,q];show _++wr (ts.take i++[t])=_;rw[yw7,Be0,Nat.min_eq_left 'o',Ao0]
      rw[e1];exact hd
  ·obtain⟨d,x3,x4,x5,x6,er,hd⟩:=hI
   subst er;rw[Ah0,ye0,Aa0,Bd0] at hd;simp! [hd.flat];exact hq d hd
instance xq8:List D->Res Unit D:=dfn 2 2 xx6.1
def wb5{ways:Str}{d:Int}(hw:vm3 ways)(hd:Dir d)(hq:Q (.bl (ve3 ways d)) ()):wpR (xq8 [.str ways,.int d]) Q E:=by
 refine zg3 rfl 'z' ?_;unfold xx6;dsimp only;have i2:∀{d:Int},iOp (λ_ j=>0<j) (λi j=>D.int (i % j)) (.int d) (.int 2)=some (.int (d % 2)):=λ{d}=>wj2 (C:=λ_ j=>0<j) 'z'
 rw  [zb6];simp! [yn0,zr3,i2];rcases hw with r | r | r | r<;>subst r
 ·rw  [zb6]
  simp! [yn0];exact hq
 ·rcases hd.cases with r | r | r | r<;>subst r<;>exact hq
 ·rw  [zb6]
  simp! [yn0,zr3,i2];rcases hd.cases with r | r | r | r<;>subst r<;>exact hq
 ·rw  [zb6]
  simp! [yn0];rcases hd.cases with r | r | r | r<;>subst r<;>exact hq
instance zx4:List D->Res Unit D:=dfn 4 2 zp0.1
def yh9{d:Int}(hd:Dir d)(hq:Q (vc0 (p.1+dx d,p.2+dy d)) ()):wpR (zx4 [vc0 p,.int d]) Q E:=by
 refine zg3 rfl 'z' ?_;unfold zp0;dsimp only;rw  [zb6];simp!;rcases hd.cases with r | r | r | r<;>subst r<;>refine{_,_,rfl,'z',rfl,?_}<;>simp?! [vc0,oIx,pt0,pt1,ve7,vg7,vg5]<;>exact hq
def zt2{A5 A4:Int}(ho:zd6 A5 A4 sh ts):Cfg A5 A4 sh ts where
 few:=ho.few
 sh:=Ap0 ho.sub.length_le (yg6 ho.w9 ho.h9)
 wh:=λt ht=>by
  have to:=ho.tr t ht;have:=to.w1;have:=to.h1;have:=to.xw;have:=to.yh;have:=to.x0;have:=to.y0;have:=ho.w9;have:=ho.h9;exact{'o','o','o','o'}
instance ym1:List D->Res Unit D:=dfn 3 3 yl3.1
def xi8{w h:Int}(hq:Q (.bl (yk0 w h c)) ()):wpR (ym1 [.int w,.int h,vc0 c]) Q E:=by
 refine zg3 rfl 'z' ?_;unfold yl3;dsimp only;simp! [vc0,oIx,pt0,pt1,vg7];unfold yk0 at hq;by_cases h1:0<=c.1<;>by_cases h2:c.1<w<;>by_cases h3:0<=c.2<;>by_cases h4:c.2<h<;>simp[h1,h2,h3,h4,D.imm] at hq ⊢<;>exact hq
def yj9{w h:Int}:yk0 w h c=true↔0<=c.1/\c.1<w/\0<=c.2/\c.2<h:=by
 simp[yk0];omega
def xg0{n:Int}(h4:∀c,vc1 (ck c) ks vs=(ve5 W c).map D.int):vn2 (.dct (.non::ks) vs) (vc0 c) (.int n)=some (.int ((ve5 W c).getD n)):=by
 show im (some ((vc1 (ck c) ks vs).getD (.int n)))=_;rw[h4 c];cases ve5 W c<;>rfl
def wf0{A5 A4:Int}(ho:zd6 A5 A4 sh ts){n:Nat}(hc:c∉sh):∃v:Nat,(ve5 (vj6 sh ts) c).getD (n:Int)=(v:Int)/\(v=n\/∃u,ts[v]?=some u/\c∈u.cells)/\∀m u,ts[m]?=some u->c∈u.cells->m=v:=by
 by_cases h:∃(m:Nat) (u:Tr),ts[m]?=some u/\c∈u.cells
 ·obtain⟨m,u,h1,h2⟩:=h
  refine{m,by rw[wa5 ho h1 h2];rfl,.inr ⟨u,h1,h2⟩,λm' u' h3 h4=>?_};have e:=(wa5 ho h1 h2).symm.trans (wa5 ho h3 h4);have:=Option.some.inj e;omega
 ·have hno:∀t∈ts,c∉t.cells:=λt ht hc'=>by
   obtain⟨m,hm⟩:=Bt0 ht;exact h ⟨m,t,hm,hc'⟩
  exact{n,by rw[vb9 hc hno];rfl,.inl rfl,λm u h1 h2=>absurd ⟨m,u,h1,h2⟩ h}
instance uf8:List D->Res Unit D:=dfn 9 5 (yn3 xq8 vp0 zx4 ym1).1
def wt3{A5 A4:Int}{n:Nat}{d:Int}(ho:zd6 A5 A4 sh ts)(hn:ts[n]?=some t)(hd:Dir d)(hh:vh0 dd (vj6 sh ts))(hN:¬okT A5 A4 sh t d->Q .non ())(hL:∀g:List Nat,okT A5 A4 sh t d->g.Nodup->(∀m,m∈g↔m≠n/\∃u,ts[m]?=some u/\hit t u d)->Q (.lst (ve1 g)) ()):wpR (uf8 [vc5 A5 A4 sh ts,zb2 ts,dd,.int n,.int d]) Q E:=by
 refine zg3 rfl 'z' ?_;unfold yn3;dsimp only;obtain⟨ks,vs,rfl,k1,k2,k3,k4⟩:=hh;have hc:=zt2 ho;obtain⟨q1,q2,q3,q4⟩:=hc.wh t (Am0 hn);have kw:∀t:Tr,oIx t.kind (.int 2)=some (.str t.ways):=λt=>rfl
 have h0:oIx (vc5 A5 A4 sh ts) (.int 0)=some (.int A5):=rfl;have h1:oIx (vc5 A5 A4 sh ts) (.int 1)=some (.int A4):=rfl;have few:=hc.few;simp_all!;simp! [hall3',xf9 hn];simp_all!;simp! [kw];refine wb5 (ho.tr t (Am0 hn)).ways hd ?_;by_cases hgo:ve3 t.ways d=true
 ·rw[hgo]
  simp!;simp_all!;simp! [vh3];rw  [zb6];simp! [zb2,yf3 hn];refine yh9 (p:=(t.x,t.y)) hd ?_;refine xm9 (p:=((t.x,t.y).1+dx d,(t.x,t.y).2+dy d)) 'o' 'o' q1 q3 ?_;have ha:cov t.w t.h ((t.x,t.y).1+dx d,(t.x,t.y).2+dy d)=t.ahead d:=rfl;rw[ha];have ha81:(t.ahead d).length<=81:=yg6 q2 q4;simp!;refine wl5 (λi Z st'=>∃(g:List Nat) (x7 x8:Sl),Z=[Sl.bor (vc5 A5 A4 sh ts),.bor (zb2 ts),.bor (.dct (.non::ks) vs),.bor (.int n),.bor (.int d),.bor t.kind,.own (.lst (ve1 g)),x7,x8]/\g.Nodup/\(∀m∈g,m≠n/\∃u,ts[m]?=some u/\hit t u d)/\∀c∈(t.ahead d).take i,(c∉sh/\0<=c.1/\c.1<A5/\0<=c.2/\c.2<A4)/\∀m u,ts[m]?=some u->c∈u.cells->m≠n->m∈g) 0 {[],_,_,rfl,List.nodup_nil,λm hm=>absurd hm 'd',λc hc=>absurd hc 'd'} (λi e Z st' he hI P pn pr=>?_) λZ st' hI=>?_
  ·obtain⟨g,x7,x8,er,nd,hg,D1⟩:=hI
   rw[Af0] at he;cases q:(t.ahead d)[i]? with
   | none=>rw[q] at he;cases he
   | some c=>
     rw[q] at he;cases he;subst er;rw[Ah0] at D1;have hca:=Am0 q;have hgl:g.length<=ts.length:=zs8 _ g nd λm hm=>by
      obtain⟨_,u,hu,_⟩:=hg m hm;exact(Ac0.mp hu).1
     refine{_,rfl,?_};simp_all!;simp! [xg0 k4];refine{ks,vs,rfl,?_};simp! [xg0 k4];simp_all!;simp! [zr3];by_cases hsh:c∈sh
     ·rw[vb8 ho hsh]
      simp! [Option.getD_some,Aq1];exact pr _ _ (hN λok=>(ok.2 c hca).1 hsh)
     ·obtain⟨v,ev,hv1,hv2⟩:=wf0 ho (c:=c) (n:=n) hsh
      rw[ev];have v1:(((v:Nat):Int) == -1)=false:=by rw[beq_eq_false_iff_ne];omega
      rw[v1];simp! [h0,h1];refine xi8 ?_;by_cases hin:yk0 A5 A4 c=true
      ·rw[hin]
       have hin':=yj9.mp hin;simp!;have on:∀g:List Nat,ve1 g=g.map λj:Nat=>D.int j:=λ_=>rfl
       have keep:∀g':List Nat,(∀m∈g,m∈g')->(v≠n->v∈g')->∀c∈(t.ahead d).take (i+1),(c∉sh/\0<=c.1/\c.1<A5/\0<=c.2/\c.2<A4)/\∀m u,ts[m]?=some u->c∈u.cells->m≠n->m∈g':=λg' hs hv c' hc'=>by
        rw[Av0,q] at hc';rcases Ar0.mp hc' with h | h
        ·exact{(D1 c' h).1,λm u e1 e2 e3=>hs m ((D1 c' h).2 m u e1 e2 e3)}
        ·have h:c'=c:=by simpa using h
         subst h;refine{⟨hsh,hin'⟩,λm u e1 e2 e3=>?_};have:=hv2 m u e1 e2;subst this;exact hv e3
       simp only[zr3,on,xe0];by_cases hvn:v=n
       ·have:(((v:Nat):Int) == ((n:Nat):Int))=true:=by rw[hvn];exact Aq1 _
        rw[this];simp!;exact pn _ _ {g,_,_,rfl,nd,hg,by rw[Ah0];exact keep g (λm h=>h) λh=>absurd hvn h}
       ·have:(((v:Nat):Int) == ((n:Nat):Int))=false:=by rw[beq_eq_false_iff_ne];omega
        rw[this];simp!;by_cases hvg:v∈g
        ·rw[Ap1 hvg]
         simp!;exact pn _ _ {g,_,_,rfl,nd,hg,by rw[Ah0];exact keep g (λm h=>h) λ_=>hvg}
        ·rw[Ao1 hvg]
         have im':D.immL (g.map λj:Nat=>D.int j)=true:=zs9 g;simp! [vd8,im'];refine{_,zu5 imm_int (by rw[Aa0];omega),pn _ _ {g++[v],.bor (vc0 c),.bor (.int v),?_,?_,?_,by rw[Ah0];exact keep _ (λm h=>By0 _ h) λ_=>by simp}}
         ·unfold ve1
          rw[Ay0];rfl
         ·rw[Ci0]
          refine{nd,'d',λa ha b hb e=>?_};rw[Al0.mp hb] at e;subst e;exact hvg ha
         ·intro m hm
          rcases Ar0.mp hm with h | h
          ·exact hg m h
          ·rw[Al0.mp h]
           refine{hvn,?_};rcases hv1 with h | ⟨u,e1,e2⟩
           ·exact absurd h hvn
           ·exact⟨u,e1,c,e2,hca⟩
      ·have hin2:yk0 A5 A4 c=false:=by simpa using hin
       rw[hin2];simp!;exact pr _ _ (hN λok=>hin (yj9.mpr (ok.2 c hca).2))
  ·obtain⟨g,x7,x8,er,nd,hg,D1⟩:=hI
   subst er;rw[Ah0,Aa0,Bd0] at D1;have im':D.immL (ve1 g)=true:=zs9 g;simp! [im'];refine hL g {hgo,λc hc'=>(D1 c hc').1} nd λm=>{hg m,λ⟨h1,u,h2,c,h3,h4⟩=>(D1 c h4).2 m u h2 h3 h1}
 ·have hgo':ve3 t.ways d=false:=by simpa using hgo
  rw[hgo'];simp!;exact hN λok=>hgo ok.1
instance yw6:List D->Res Unit D:=dfn 9 5 (zm9 uf8).1
instance muA(Z:Rho):Nat:=match (Z[7]?:Option Sl) with
 | some (Sl.bor (D.int a))=>20-a.toNat
 | _=>0
def xi9{g h:List Nat}(hl:h.length<=1000)(hq:Q (ve1 (h.filter λk=>decide (k∉g))) ()) :
 wpR (vi1 Unit (gN 0) (tP Unit (tb (o2 (oIn true) (vr 0) (vr 1)))) (fP Unit (vr 0)) (ve1 h) [] [x,.bor (.lst (ve1 g))] ()) Q E:=by
 refine zs6 (λn acc Z st'=>acc=ve1 ((h.take n).filter λk=>decide (k∉g))/\∃x,Z=[x,.bor (.lst (ve1 g))]) 0 {rfl,_,rfl} (λi d acc Z st' hd hI134=>?_) λacc Z st' hI133=>?_
 ·obtain⟨e1,x,er⟩:=hI134
  unfold ve1 at hd;rw[Af0] at hd;cases q:h[i]? with
  | none=>rw[q] at hd;cases hd
  | some k=>
    rw[q] at hd;cases hd;subst er;rw[Ah0] at e1;have on:∀g:List Nat,ve1 g=g.map λj:Nat=>D.int j:=λ_=>rfl
    refine{_,rfl,?_};simp! [on,xe0];have ht:(h.take (i+1)).filter (λk=>decide (k∉g))=(h.take i).filter (λk=>decide (k∉g))++[k].filter λk=>decide (k∉g):=by
     rw[Av0,q,List.filter_append];rfl
    by_cases hk:k∈g
    ·rw[Ap1 hk]
     simp!;refine{?_,_,rfl};rw[ht,e1];simp[hk,ve1]
    ·rw[Ao1 hk]
     simp!;refine{xf0 ?_,?_,_,rfl}
     ·rw[e1];unfold ve1
      rw[Aa0];have:=Ce0 (λk=>decide (k∉g)) (h.take i);rw[Be0] at this;omega
     ·rw[ht,e1]
      simp[hk,ve1]
 ·obtain⟨e1,x,er⟩:=hI133
  unfold ve1 at e1;rw[Ah0,Aa0,Bd0] at e1;rw[e1];exact hq
theorem we0{neg:Bool}{g:List Nat}:oEq neg (.lst (ve1 g)) (.lst [])=some (.bl (if neg then !decide (g=[]) else decide (g=[]))):=by
 have hd:D.depL (ve1 g)<=0:=zp7 (n:=0) (λa=>by simp[D.dep]) g;cases g with
 | nil=>simp[oEq,ve1,D.eqq,D.eqL,D.dep,D.depL]
 | cons a g=>
   have hd':D.depL (ve1 (a::g))<=29:=Ap0 hd 'z';simp only[oEq,D.dep,Nat.reduceSubDiff];simp[ve1,D.eqq,D.eqL,D.dep,D.depL] at hd' ⊢;omega
def xb9{A5 A4:Int}{n:Nat}{d:Int}(ho:zd6 A5 A4 sh ts)(hn:ts[n]?=some t0)(hd:Dir d)(hh:vh0 dd (vj6 sh ts))(hN:wa7 A5 A4 sh ts d n t0->Q .non ())(hL:∀g:List Nat,ve8 A5 A4 sh ts d n g->Q (.tup (ve1 g)) ()):wpR (yw6 [vc5 A5 A4 sh ts,zb2 ts,dd,.int n,.int d]) Q E:=by
 refine zg3 rfl 'z' ?_;unfold zm9;dsimp only;have hc:=zt2 ho;have few:=hc.few;have ks:∀t:Tr,oIx t.kind (.int 3)=some (.int t.s):=λt=>rfl
 have hf:=hh.flat;have hst:=(ho.tr t0 (Am0 hn)).st;simp_all!;simp! [hall3',xf9 hn,ks];simp_all!;simp! [zr3];by_cases hs:t0.s=-1
 ·have hs':(t0.s == -1)=true:=by rw[hs];rfl
  rw[hs'];simp!;exact hN (.inl 'o')
 ·have hs':(t0.s == -1)=false:=by rw[beq_eq_false_iff_ne];exact hs
  rw[hs'];simp!;simp_all!;simp! [zp1];simp_all!;simp!;rw  [zb6];refine yc4 (λZ st=>∃(g:List Nat) (at':Nat) (x8:Sl),Z=[Sl.bor (vc5 A5 A4 sh ts),.bor (zb2 ts),.bor dd,.bor (.int n),.bor (.int d),.bor (.int t0.s),.own (.lst (ve1 g)),.bor (.int at'),x8]/\g.Nodup/\(∀m∈g,m<ts.length/\vk2 ts d n m)/\n∈g/\at'<=g.length/\(t0.s=0->∀m∈g,m=n)/\(∀j m t,j<at'->g[j]?=some m->ts[m]?=some t->okT A5 A4 sh t d/\∀k u,ts[k]?=some u->hit t u d->k∈g)) (λZ _=>muA Z) {[n],0,_,rfl,'d',λm hm=>?_,'d','d',λ_ m hm=>Al0.mp hm,λj m t hj=>absurd hj (Nat.not_lt_zero _)} ?_
  ·rw[Al0.mp hm]
   exact{(Ac0.mp hn).1,.self}
  ·intro Z st hI P Zv0 pn pr pz
   obtain⟨g,at',x8,rfl,nd,hg,hng,hat,hz,D1⟩:=hI;have hgl:g.length<=ts.length:=zs8 _ g nd λm hm=>(hg m hm).1
   have gl:(ve1 g).length=g.length:=by unfold ve1;rw[Aa0]
   have im':∀g:List Nat,D.immL (ve1 g)=true:=zs9;simp! [vo2,vg7,gl];by_cases hlt:at' < g.length
   ·rw[Ap1 (show ((at':Nat):Int)<(g.length:Int) by omega),if_pos rfl]
    obtain⟨m,hm⟩:∃m,g[at']?=some m:={_,Ad0 hlt};have hmg:=Am0 hm;obtain⟨hmN,hmR⟩:=hg m hmg;obtain⟨t,ht⟩:∃t,ts[m]?=some t:={_,Ad0 hmN};simp_all!;simp! [we2 hm];refine wt3 ho ht hd hh (λhno=>?_) λh hok hnd hmem=>?_
    ·simp!
     simp_all!;simp! [vl0,D.isNon];exact pr _ _ (hN (.inr (.inl ⟨m,t,hmR,ht,hno⟩)))
    ·have hlN:∀k∈h,k<ts.length/\vk2 ts d n k:=λk hk=>by
      obtain⟨_,u,e1,e2⟩:=(hmem k).mp hk;exact{(Ac0.mp e1).1,.more hmR ht e1 e2}
     have hhl:h.length<=ts.length:=zs8 _ h hnd λk hk=>(hlN k hk).1
     simp! [im'];simp_all!;simp! [vl0,D.isNon,vh3,we0,zr3];have go:(t0.s=0->h=[])->wpR (vt1 Unit (sMt Unit 6 ub5 (vn6 Unit [8] [none,some 6] (vp6 Unit D.seq? (fVk Unit 8)) (gN 0) (tP Unit (tb (o2 (oIn true) (vr 0) (vr 1)))) (fP Unit (vr 0)))) (vy6 Unit 7 (fP Unit (cn (D.int 1))) λi j=>i+j) [Sl.bor (vc5 A5 A4 sh ts),.bor (zb2 ts),.bor dd,.bor (.int n),.bor (.int d),.bor (.int t0.s),.own (.lst (ve1 g)),.bor (.int at'),.own (.lst (ve1 h))] ()) P E:=λhz0=>by
      rw  [zb6];simp! [im',vd8];refine xi9 'o' ?_;have hfl:∀k∈h.filter (λk=>decide (k∉g)),k∈h/\k∉g:=λk hk=>by simpa using hk
      have hall:∀k∈h,k∈g++h.filter λk=>decide (k∉g):=λk hk=>by
       by_cases e:k∈g
       ·exact By0 _ e
       ·exact Bj0 _ (by simp[hk,e])
      have hnl:(h.filter λk=>decide (k∉g)).length<=h.length:=Ce0 _ _;have hnd':(h.filter λk=>decide (k∉g)).Nodup:=hnd.filter _;have hz1:t0.s=0->h.filter (λk=>decide (k∉g))=[]:=λe=>by rw[hz0 e];rfl
      generalize h.filter (λk=>decide (k∉g))=r at hfl hall hnl hnd' hz1;have rl:(ve1 r).length=r.length:=by unfold ve1;rw[Aa0]
      refine{_,yd9 (zs9 r) 'o',?_};refine{_,_,rfl,rfl,pn _ _ {g++r,at' + 1,.own (.lst (ve1 h)),?_,?_,?_,By0 _ hng,?_,?_,?_} ?_}
      ·unfold ve1;rw[Ay0];rfl
      ·rw[Ci0]
       exact{nd,hnd',λa ha b hb e=>by subst e;exact(hfl _ hb).2 ha}
      ·intro m' hm'
       rcases Ar0.mp hm' with e | e
       ·exact hg m' e
       ·exact hlN m' (hfl m' e).1
      ·rw[Ak0];omega
      ·intro e m' hm'
       rw[hz1 e,Bh0] at hm';exact hz e m' hm'
      ·intro j m' t' hj hm' ht'
       by_cases h5:j=at'
       ·subst h5
        rw[Br0 hlt,hm] at hm';cases hm';rw[ht] at ht';cases ht';refine{hok,λk u e1 e2=>?_};by_cases e:k=m
        ·subst e;exact By0 _ hmg
        ·exact hall k ((hmem k).mpr ⟨e,u,e1,e2⟩)
       ·rw[Br0 'o'] at hm'
        obtain⟨z1,z2⟩:=D1 j m' t' 'o' hm' ht';exact{z1,λk u e1 e2=>By0 _ (z2 k u e1 e2)}
      ·show 20-((at':Int)+1).toNat<20-at'
       omega
     by_cases hh0:h=[]
     ·rw[Ap1 hh0]
      simp!;exact go λ_=>hh0
     ·rw[Ao1 hh0]
      simp!;by_cases h1:t0.s=1
      ·have h1':(t0.s == 1)=true:=by rw[h1];rfl
       rw[h1'];simp!;exact go λe=>absurd e 'o'
      ·have h1':(t0.s == 1)=false:=by rw[beq_eq_false_iff_ne];exact h1
       rw[h1'];simp!;refine pr _ _ (hN (.inr (.inr {'o',?_})));obtain⟨k,hk⟩:=List.exists_mem_of_ne_nil h hh0;by_cases e:k=n
       ·refine{m,λe'=>((hmem k).mp hk).1 (e.trans e'.symm),hmR}
       ·exact{k,e,(hlN k hk).2}
   ·rw[Ao1 (show ¬((at':Nat):Int)<(g.length:Int) by omega)]
    simp!;refine pz _ ?_;have hall:∀m,m∈g↔vk2 ts d n m:=λm=>{λh=>(hg m h).2,λh=>by
     induction h with
     | self=>exact hng
     | more h1 h2 h3 h4 ih=>
       obtain⟨j,hj⟩:=Bt0 ih;have hjl:j<g.length:=(Ac0.mp hj).1;exact(D1 j _ _ 'o' hj h2).2 _ _ h3 h4}
    have hokg:∀m∈g,∀t,ts[m]?=some t->okT A5 A4 sh t d:=λm hm t ht=>by
     obtain⟨j,hj⟩:=Bt0 hm;have hjl:j<g.length:=(Ac0.mp hj).1;exact(D1 j m t 'o' hj ht).1
    obtain⟨g',e1,e2,e3⟩:=xo3 g;have os:yy5 [.lst (ve1 g)]=some (.lst (ve1 g')):=by
     show (zu1 (ve1 g)).bind (λns=>if ns.length<64 then some (D.lst ((sortI ns).map D.int)) else none)=_;rw[yz7];show (if (g.map λj:Nat=>(j:Int)).length<64 then some (D.lst ((sortI (g.map λj:Nat=>(j:Int))).map D.int)) else none)=_;rw[if_pos (by rw[Aa0];omega),e1]
    simp! [os,yi9,zs9];exact hL g' {e2.symm.nodup nd,e3,λm=>by rw[e2.mem_iff];exact hall m,λm hm=>(hg m (e2.mem_iff.mp hm)).1,λm hm=>hokg m (e2.mem_iff.mp hm),λt ht=>by
     rw[hn] at ht;cases ht;exact{'o',λz m hm=>hz z m (e2.mem_iff.mp hm)}}
instance zy6:List D->Res Unit D:=dfn 4 4 (yn2 yw6 zx3).1
def yq2{A5 A4:Int}{n:Nat}{d:Int}(ho:zd6 A5 A4 sh ts)(hn:ts[n]?=some t0)(hd:Dir d)(hN:wa7 A5 A4 sh ts d n t0->Q .non ())(hL:∀g:List Nat,ve8 A5 A4 sh ts d n g->Q (.tup (ve1 g)) ()):wpR (zy6 [vc5 A5 A4 sh ts,zb2 ts,.int n,.int d]) Q E:=by
 refine zg3 rfl 'z' ?_;unfold yn2;dsimp only;have hc:=zt2 ho;simp!;refine yh7 hc λdd hdd=>?_
 refine xb9 ho hn hd hdd (λh=>?_) λg h=>?_
 ·exact{.inl imm_non,hN h}
 ·exact{.inl (zs9 g),hL g h}
def wb8{t:Tr}{d:Int}:(t.to d).cells=t.ahead d:=rfl
def yh1{t:Tr}{d:Int}{c:vc2}:c∈t.ahead d↔(c.1-dx d,c.2-dy d)∈t.cells:=by
 unfold Tr.ahead Tr.cells;rw[zu6,zu6];simp only;omega
def zd6.moved{A5 A4:Int}{sh:List vc2}{ts:List Tr}{g:List Nat}{d:Int}{n:Nat}(ho:zd6 A5 A4 sh ts)(hg:ve8 A5 A4 sh ts d n g):zd6 A5 A4 sh (ze9 ts g d) where
 w1:=ho.w1
 w9:=ho.w9
 h1:=ho.h1
 h9:=ho.h9
 sub:=ho.sub
 few:=by rw[zj0];exact ho.few
 tr:=λt ht=>by
  obtain⟨i,hi⟩:=Bt0 ht;rw[zg0] at hi;cases q:ts[i]? with
  | none=>rw[q] at hi;cases hi
  | some u=>
    rw[q] at hi;have hi:(if i∈g then u.to d else u)=t:=Option.some.inj hi;have hu:=ho.tr u (Am0 q);by_cases hgi:i∈g
    ·rw[if_pos hgi] at hi
     subst hi;have ok:=(hg.ok i hgi u q).2;have w1:=hu.w1;have h1:=hu.h1;have m1:(u.x+dx d,u.y+dy d)∈u.ahead d:=by unfold Tr.ahead;rw[zu6];simp only;omega
     have m2:(u.x+dx d+u.w-1,u.y+dy d+u.h-1)∈u.ahead d:=by unfold Tr.ahead;rw[zu6];simp only;omega
     obtain⟨_,a1,_,a3,_⟩:=ok _ m1;obtain⟨_,_,b2,_,b4⟩:=ok _ m2;simp only at a1 a3 b2 b4;exact{w1,h1,a1,by show u.x+dx d+u.w<=A5;omega,a3,by show u.y+dy d+u.h<=A4;omega,hu.ways,hu.st,λc hc=>(ok c hc).1}
    ·rw[if_neg hgi] at hi
     subst hi;exact hu
 apart:=by
  have ap:=Cg0.mp ho.apart;have two:∀i j (a b:Tr),ts[i]?=some a->ts[j]?=some b->i≠j->∀c∈a.cells,c∉b.cells:=λi j a b ha hb hij c h1 h2=>by
   obtain⟨hi,rfl⟩:=Ac0.mp ha;obtain⟨hj,rfl⟩:=Ac0.mp hb;rcases Nat.lt_or_gt_of_ne hij with h | h
   ·exact ap i j hi hj h c h1 h2
   ·exact ap j i hj hi h c h2 h1
  refine Cg0.mpr λi j hi hj hij c h1 h2=>?_
  have li:i<ts.length:=by rw[zj0] at hi;exact hi
  have lj:j<ts.length:=by rw[zj0] at hj;exact hj
  have ei:(ze9 ts g d)[i]?=some ((ze9 ts g d)[i]):=Ad0 hi;have ej:(ze9 ts g d)[j]?=some ((ze9 ts g d)[j]):=Ad0 hj;have qi:ts[i]?=some ts[i]:=Ad0 li;have qj:ts[j]?=some ts[j]:=Ad0 lj;rw[zg0,qi] at ei;rw[zg0,qj] at ej;have ei:(if i∈g then ts[i].to d else ts[i])=(ze9 ts g d)[i]:=Option.some.inj ei;have ej:(if j∈g then ts[j].to d else ts[j])=(ze9 ts g d)[j]:=Option.some.inj ej;rw[<-ei] at h1;rw[<-ej] at h2;have hne:i≠j:=As0 hij;by_cases gi:i∈g<;>by_cases gj:j∈g<;>simp only[gi,gj,if_true,if_false,wb8] at h1 h2
  ·exact two i j _ _ qi qj hne _ (yh1.mp h1) (yh1.mp h2)
  ·exact gj ((hg.all j).mpr (.more ((hg.all i).mp gi) qi qj ⟨c,h2,h1⟩))
  ·exact gi ((hg.all i).mpr (.more ((hg.all j).mp gj) qj qi ⟨c,h1,h2⟩))
  ·exact two i j _ _ qi qj hne c h1 h2
theorem wh0:∀(a b:List Nat),a.Pairwise (· < ·)->b.Pairwise (· < ·)->(∀m,m∈a↔m∈b)->a=b
 | [],[],_,_,_=>rfl
 | [],y::b,_,_,h=>absurd ((h y).mpr 'd') 'd'
 | x::a,[],_,_,h=>absurd ((h x).mp 'd') 'd'
 | x::a,y::b,ha,hb,h=>by
   rw[Bm0] at ha hb;have hxy:x=y:=by
    have h1:=(h x).mp 'd';have h2:=(h y).mpr 'd';rcases Aj0.mp h1 with e | e
    ·exact e
    ·rcases Aj0.mp h2 with e' | e'
     ·exact e'.symm
     ·have:=hb.1 x e
      have:=ha.1 y e';omega
   subst hxy;rw[wh0 a b ha.2 hb.2 λm=>{λhm=>?_,λhm=>?_}]
   ·have h1:=ha.1 m hm
    rcases Aj0.mp ((h m).mp (by simp[hm])) with e | e
    ·omega
    ·exact e
   ·have h1:=hb.1 m hm
    rcases Aj0.mp ((h m).mpr (by simp[hm])) with e | e
    ·omega
    ·exact e
def ve8.lt'{A5 A4:Int}{d:Int}{n:Nat}{g:List Nat}(h:ve8 A5 A4 sh ts d n g):g.Pairwise (· < ·):=by
 have:=List.Pairwise.and h.up h.nd;exact this.imp λ⟨a,b⟩=>Nat.lt_of_le_of_ne a b
def ve8.one{A5 A4:Int}{d:Int}{n:Nat}{g g':List Nat}(h:ve8 A5 A4 sh ts d n g)(h':ve8 A5 A4 sh ts d n g'):g=g':=
 wh0 g g' h.lt' h'.lt' λm=>(h.all m).trans (h'.all m).symm
def ve8.not{A5 A4:Int}{d:Int}{n:Nat}{g:List Nat}(h:ve8 A5 A4 sh ts d n g)(hn:ts[n]?=some t):¬wa7 A5 A4 sh ts d n t:=by
 rintro (h1 | ⟨m,t',h1,h2,h3⟩ | ⟨h1,m,h2,h3⟩)
 ·exact(h.str t hn).1 h1
 ·exact h3 (h.ok m ((h.all m).mpr h1) t' h2)
 ·exact h2 ((h.str t hn).2 h1 m ((h.all m).mpr h3))
def ve8.len{A5 A4:Int}{sh:List vc2}{ts:List Tr}{d:Int}{n:Nat}{g:List Nat}(h:ve8 A5 A4 sh ts d n g):g.length<=ts.length:=zs8 _ g h.nd h.lt
theorem wo9{neg:Bool}(h:D.depL l<=29):oEq neg (.lst l) (.lst [])=some (.bl (if neg then !decide (l=[]) else decide (l=[]))):=by
 cases l with
 | nil=>simp[oEq,D.eqq,D.eqL,D.dep,D.depL]
 | cons a g=>
   have hd:(D.lst (a::g)).dep<=30:=by unfold D.dep;omega
   unfold oEq;rw[if_pos hd];have e:D.eqq (.lst (a::g)) (.lst [])=some false:=by simp[D.eqq,D.eqL]
   rw[e];cases neg<;>simp
theorem vd6.pos{A5 A4:Int}{sh:List vc2}{d:Int}{n:Nat}{ts ts':List Tr}{k:Nat}{t:Tr}(h:vd6 A5 A4 sh d n ts k ts')(hn:ts[n]?=some t)(hw:1<=t.w)(hh:1<=t.h) :
 ts'[n]?=some { t with x:=t.x+k*dx d,y:=t.y+k*dy d }/\(1<=k->0<=t.x+k*dx d/\t.x+k*dx d<A5/\0<=t.y+k*dy d/\t.y+k*dy d<A4):=by
 induction h with
 | zero=>refine{?_,λh=>absurd h 'z'};rw[hn];simp
 | @succ k ts' g _ hg ih=>
   have hng:n∈g:=(hg.all n).mpr .self;obtain⟨ih,_⟩:=ih;have e1:t.x+((k+1:Nat):Int)*dx d=t.x+k*dx d+dx d:=by rw[Int.natCast_add,Int.add_mul];simp;omega
   have e2:t.y+((k+1:Nat):Int)*dy d=t.y+k*dy d+dy d:=by rw[Int.natCast_add,Int.add_mul];simp;omega
   constructor
   ·rw[zg0,ih,e1,e2]
    simp only[At0,if_pos hng];rfl
   ·intro _
    have ok:=hg.ok n hng _ ih;have hm:(t.x+k*dx d+dx d,t.y+k*dy d+dy d)∈Tr.ahead { t with x:=t.x+k*dx d,y:=t.y+k*dy d } d:=by
     unfold Tr.ahead;rw[zu6];refine{Int.le_refl _,?_,Int.le_refl _,?_}<;>simp only<;>omega
    have:=(ok.2 _ hm).2;rw[e1,e2];exact this
def vd6.le9{A5 A4:Int}{sh:List vc2}{d:Int}{n:Nat}{ts ts':List Tr}{k:Nat}{t:Tr}(h:vd6 A5 A4 sh d n ts k ts')(hn:ts[n]?=some t)(hw:1<=t.w)(hh:1<=t.h)(hx:0<=t.x/\t.x<9)(hy:0<=t.y/\t.y<9)(hW:A5<=9)(hH:A4<=9)(hd:Dir d):k<=9:=by
 by_cases hk:1<=k
 ·obtain⟨_,p⟩:=h.pos hn hw hh
  have p:=p hk;rcases hd.cases with r | r | r | r<;>subst r<;>simp[dx,dy] at p<;>omega
 ·omega
inductive vm5(A5 A4:Int)(sh:List vc2)(d:Int)(n:Nat):List Tr->List (List Tr)->Prop where
 | stop {ts:List Tr}:(∀g,¬ve8 A5 A4 sh ts d n g)->vm5 A5 A4 sh d n ts []
 | go {ts:List Tr} {g:List Nat} {l:List (List Tr)}:ve8 A5 A4 sh ts d n g->vm5 A5 A4 sh d n (ze9 ts g d) l->vm5 A5 A4 sh d n ts (ze9 ts g d::l)
inductive vm6(A5 A4:Int)(sh:List vc2)(d:Int)(n:Nat)(ts:List Tr):List (List Tr)->List Tr->Prop where
 | nil:vm6 A5 A4 sh d n ts [] ts
 | snoc {p:List (List Tr)} {cur:List Tr} {g:List Nat}:vm6 A5 A4 sh d n ts p cur->ve8 A5 A4 sh cur d n g->vm6 A5 A4 sh d n ts (p++[ze9 cur g d]) (ze9 cur g d)
section
variable{A5 A4:Int}{d:Int}{n:Nat}
theorem vm5.one(h:vm5 A5 A4 sh d n ts l):∀{l':List (List Tr)},vm5 A5 A4 sh d n ts l'->l=l':=by
 induction h with
 | stop h=>intro l' h';cases h' with
   | stop _=>rfl
   | go hg _=>exact absurd hg (h _)
 | go hg _ ih=>intro l' h';cases h' with
   | stop h=>exact absurd hg (h _)
   | go hg' h'=>
     have:=hg.one hg';subst this;rw[ih h']
theorem vm6.alng(h:vm6 A5 A4 sh d n ts p cur):∀{l:List (List Tr)},vm5 A5 A4 sh d n cur l->vm5 A5 A4 sh d n ts (p++l):=by
 induction h with
 | nil=>intro l hl;exact hl
 | snoc _ hg ih=>intro l hl;rw[Ao0];exact ih (.go hg hl)
theorem vm6.steps(h:vm6 A5 A4 sh d n ts p cur):vd6 A5 A4 sh d n ts p.length cur:=by
 induction h with
 | nil=>exact .zero
 | snoc _ hg ih=>rw[Ak0];exact .succ ih hg
theorem vm6.ok(h:vm6 A5 A4 sh d n ts p cur)(ho:zd6 A5 A4 sh ts):zd6 A5 A4 sh cur:=by
 induction h with
 | nil=>exact ho
 | snoc _ hg ih=>exact ih.moved hg
def vm6.le9{t:Tr}(h:vm6 A5 A4 sh d n ts p cur)(ho:zd6 A5 A4 sh ts)(ht:ts[n]?=some t)(hd:Dir d):p.length<=9:=by
 have to:=ho.tr t (Am0 ht);have w9:=ho.w9;have h9:=ho.h9;exact h.steps.le9 ht to.w1 to.h1 {to.x0,by have:=to.xw;have:=to.w1;omega} {to.y0,by have:=to.yh;have:=to.h1;omega} w9 h9 hd
end
open Classical in
instance vj4(A5 A4:Int)(sh:List vc2)(ts:List Tr)(d:Int)(n:Nat):List (List Tr):=if h:∃l,vm5 A5 A4 sh d n ts l then h.choose else []
def vm5.is{A5 A4:Int}{d:Int}{n:Nat}(h:vm5 A5 A4 sh d n ts l):vj4 A5 A4 sh ts d n=l:=by
 unfold vj4;have e:∃l,vm5 A5 A4 sh d n ts l:=⟨l,h⟩;rw[dif_pos e];exact e.choose_spec.one h
def vm6.is{A5 A4:Int}{d:Int}{n:Nat}(h:vm6 A5 A4 sh d n ts p cur)(hs:∀g,¬ve8 A5 A4 sh cur d n g):vj4 A5 A4 sh ts d n=p:=by
 have:=(h.alng (.stop hs)).is;rw[Bh0] at this;exact this
structure Row where
 n:Nat
 d:Int
 k:Nat
 ts:List Tr
instance Row.push(r:Row):D:=vj7 r.n r.d r.k
instance Row.data(r:Row):D:=.tup [r.push,zb2 r.ts]
def zs7{n:Nat}{d k:Int}:(vj7 n d k).imm=true:=by simp[vj7,D.imm,D.immL]
def zn6:(zb2 ts).imm=true:=by unfold zb2;rw[imm_tup];exact zb1 zk2 _
def zy1(r:Row):r.data.imm=true:=by unfold Row.data Row.push;simp only[imm_tup,D.immL,zs7,zn6,Ca0]
instance vl6(n:Nat)(d:Int)(p:List (List Tr)):List Row:=(p.zipIdx 1).map λq=>⟨n,d,q.2,q.1⟩
def yr7{n:Nat}{d:Int}:(vl6 n d p).length=p.length:=by unfold vl6;simp
instance vi4(A5 A4:Int)(sh:List vc2)(ts:List Tr)(n i:Nat):List Row:=(List.range i).flatMap λd:Nat=>vl6 n (d:Int) (vj4 A5 A4 sh ts (d:Int) n)
instance ve2(A5 A4:Int)(sh:List vc2)(ts:List Tr)(m:Nat):List Row:=(List.range m).flatMap λn=>vi4 A5 A4 sh ts n 4
def xk0{A5 A4:Int}{n i:Nat}:vi4 A5 A4 sh ts n (i+1)=vi4 A5 A4 sh ts n i++vl6 n i (vj4 A5 A4 sh ts i n):=by
 unfold vi4;rw[Cs0,Cl0];simp
def xk1{A5 A4:Int}{m:Nat}:ve2 A5 A4 sh ts (m+1)=ve2 A5 A4 sh ts m++vi4 A5 A4 sh ts m 4:=by
 unfold ve2;rw[Cs0,Cl0];simp
instance yk7:List D->Res Unit D:=dfn 5 3 (zp9 zx4).1
def xb8{g:List Nat}{d:Int}(hd:Dir d)(few:ts.length<=12)(hlt:∀k∈g,k<ts.length)(nd:g.Nodup)(hq:Q (zb2 (ze9 ts g d)) ()):wpR (yk7 [zb2 ts,.tup (ve1 g),.int d]) Q E:=by
 refine zg3 rfl 'z' ?_;unfold zp9;dsimp only;simp_all!;simp! [zb2,vu4,zb1 zk2];simp_all!;simp!;refine zf1 (λj Z st'=>∃(x4:Sl),Z=[Sl.bor (zb2 ts),.bor (.tup (ve1 g)),.bor (.int d),.own (.lst ((ze9 ts (g.take j) d).map Tr.place)),x4]) 0 {_,by rw[List.take_zero,xk9];rfl} (λj e Z st' he hI P pn=>?_) λZ st' hI=>?_
 ·obtain⟨x4,er⟩:=hI
  unfold ve1 at he;rw[Af0] at he;cases q:g[j]? with
  | none=>rw[q] at he;cases he
  | some k=>
    rw[q] at he;cases he;subst er;rw[Ah0];have hkl:=hlt k (Am0 q);obtain⟨u,hu⟩:∃u,ts[k]?=some u:={_,Ad0 hkl};have hpl:oIx (zb2 ts) (.int k)=some u.place:=yf3 hu;refine{_,rfl,?_};simp! [hpl];refine yh9 (p:=(u.x,u.y)) hd ?_;simp! [vd8,zb1 zk2];refine{k,k,rfl,?_,zc4 _,pn _ _ {.bor (.int k),?_}}
    ·unfold ixN
     rw[if_pos 'o',if_pos (by rw[Aa0,zj0];omega)];simp
    ·have e1:vc0 ((u.x,u.y).1+dx d,(u.x,u.y).2+dy d)=(u.to d).place:=rfl
     rw[e1,xk8 hu,Ah0,Av0,q];rfl
 ·obtain⟨x4,er⟩:=hI
  subst er;have gl:(ve1 g).length=g.length:=by unfold ve1;rw[Aa0]
  rw[Ah0,gl,Bd0];simp! [yi9,zb1 zk2];exact hq
instance Nx(A5 A4:Int)(sh:List vc2)(cur:List Tr)(d:Int)(n:Nat)(x:D):Prop:=(x=.non/\∀g,¬ve8 A5 A4 sh cur d n g)\/∃g,x=.tup (ve1 g)/\ve8 A5 A4 sh cur d n g
def Nx.flat{A5 A4:Int}{sh:List vc2}{cur:List Tr}{d:Int}{n:Nat}{x:D}(h:Nx A5 A4 sh cur d n x):x.flat=false:=by
 rcases h with⟨rfl,_⟩ | ⟨g,rfl,_⟩<;>rfl
instance muE(Z:Rho):Nat:=match (Z[7]?:Option Sl),(Z[5]?:Option Sl) with
 | some (Sl.bor (D.tup _)),some (Sl.own (D.lst l))=>30-l.length
 | _,_=>0
instance vv9:List D->Res Unit D:=dfn 8 5 (zm5 yw6 yk7 zy6).1
def wl7{A5 A4:Int}{n:Nat}{d:Int}(ho:zd6 A5 A4 sh ts)(hn:ts[n]?=some t0)(hd:Dir d)(hh:vh0 dd (vj6 sh ts))(hq:(vj4 A5 A4 sh ts d n).length<=9->Q (.lst ((vj4 A5 A4 sh ts d n).map zb2)) ()):wpR (vv9 [vc5 A5 A4 sh ts,zb2 ts,dd,.int n,.int d]) Q E:=by
 refine zg3 rfl 'z' ?_;unfold zm5;dsimp only;have few:=ho.few;have hnl:n<ts.length:=(Ac0.mp hn).1;simp_all!;simp! [vh3];simp_all!;simp!;simp_all!;simp!;refine za6 (xb9 (Q:=λx _=>Nx A5 A4 sh ts d n x) ho hn hd hh (λh=>.inl {rfl,λg hg=>hg.not hn h}) λg h=>.inr ⟨g,rfl,h⟩) (λx st hx=>?_) λx s z=>z
 have hxf:=hx.flat;simp! [hxf];rw  [zb6];refine yc4 (λZ st=>∃(p:List (List Tr)) (cur:List Tr) (x:D),Z=[Sl.bor (vc5 A5 A4 sh ts),.bor (zb2 ts),.bor dd,.bor (.int n),.bor (.int d),.own (.lst (p.map zb2)),.bor (zb2 cur),.bor x]/\vm6 A5 A4 sh d n ts p cur/\Nx A5 A4 sh cur d n x) (λZ _=>muE Z) {[],ts,x,rfl,.nil,hx} ?_;intro Z st hI P Zv0 pn pr pz;obtain⟨p,cur,x,rfl,hp,hx⟩:=hI;have hp9:=hp.le9 ho hn hd;have hoc:=hp.ok ho;have hst:=hp.steps;have pim:∀p:List (List Tr),D.immL (p.map zb2)=true:=λp=>zb1 (λ_=>zn6) p
 rcases hx with⟨rfl,hno⟩ | ⟨g,rfl,hg⟩
 ·simp! [vl0,D.isNon]
  refine pz _ ?_;simp! [pim];have:=hp.is hno;rw[this] at hq;exact hq hp9
 ·simp! [vl0,D.isNon]
  simp_all!;simp!;refine xb8 hd (by rw[hst.len];omega) hg.lt hg.nd ?_;have hp':=hp.snoc hg;have hst':=hp'.steps;have hoc':=hp'.ok ho;obtain⟨nx,hnx⟩:∃nx,nx=ze9 cur g d:={_,rfl};rw[<-hnx] at hp' hst' hoc' ⊢;have sf:(zb2 nx).flat=false:=rfl;simp! [sf];rw  [zb6];simp! [vd8,pim];refine{_,zu5 zn6 (by rw[Aa0];omega),?_};obtain⟨t1,ht1⟩:∃t,nx[n]?=some t:={_,Ad0 (by rw[hst'.len];exact hnl)};rw[<-zh4 hst'.kind];refine za6 (yq2 (Q:=λx _=>Nx A5 A4 sh nx d n x) hoc' ht1 hd (λh=>.inl {rfl,λg hg=>hg.not ht1 h}) λg h=>.inr ⟨g,rfl,h⟩) (λy st hy=>?_) λx s z=>z
  have hyf:=hy.flat;simp! [hyf];rw[zh4 hst'.kind];refine pn _ _ {p++[nx],nx,y,by rw[Ay0];rfl,hp',hy} ?_;have m1:muE [Sl.bor (vc5 A5 A4 sh ts),.bor (zb2 ts),.bor dd,.bor (.int n),.bor (.int d),.own (.lst (p.map zb2)),.bor (zb2 cur),.bor (.tup (ve1 g))]=30-(p.map zb2).length:=rfl;rw[m1,Aa0];rcases hy with⟨rfl,_⟩ | ⟨g',rfl,_⟩
  ·show 0<30-p.length
   omega
  ·show 30-(p.map zb2++[zb2 nx]).length<30-p.length
   rw[Ak0,Aa0];simp;omega
instance vy9:List D->Res Unit D:=dfn 7 2 (zh5 zx3 vv9).1
instance uk7(n i:Nat)(d:D):D:=match d with
 | .tup [k,s]=>.tup [.tup [.int n,.int i,k],s]
 | _=>.non
def xs7{n i:Nat}:(vo3 1 (p.map zb2)).map (uk7 n i)=(vl6 n i p).map Row.data:=by
 unfold vo3 vl6;rw[List.zipIdx_map,Bq0,Bq0,Bq0];refine List.map_congr_left λq _=>?_
 rfl
def wg7{A5 A4:Int}(ho:zd6 A5 A4 sh ts)(hq:(ve2 A5 A4 sh ts ts.length).length<=432->Q (.lst ((ve2 A5 A4 sh ts ts.length).map Row.data)) ()):wpR (vy9 [vc5 A5 A4 sh ts,zb2 ts]) Q E:=by
 refine zg3 rfl 'z' ?_;unfold zh5;dsimp only;have hc:=zt2 ho;have few:=ho.few;simp_all!;simp!;refine yh7 hc λdd hdd=>?_
 have hf:=hdd.flat;simp! [hf];simp_all!;simp! [vh3];simp_all!;have len:vo2 [zb2 ts]=some (.int ts.length):=by unfold zb2 vo2;simp
 simp! [len];rw[zh2 'o' 'o'];refine zf1 (λi Z st'=>∃(x4 x5 x6:Sl),Z=[Sl.bor (vc5 A5 A4 sh ts),.bor (zb2 ts),.own dd,.own (.lst ((ve2 A5 A4 sh ts i).map Row.data)),x4,x5,x6]/\(ve2 A5 A4 sh ts i).length<=36*i) 0 {_,_,_,rfl,by simp[ve2]} (λn e Z st' he hI P pn=>?_) λZ st' hI=>?_
 ·obtain⟨x4,x5,x6,er,hl⟩:=hI
  obtain⟨rfl,hi⟩:=zf8 he;rw[Bp0] at hi;rw[Ah0] at hl er;rw[Ah0] at pn;subst er;have k0:(0:Int)+(n:Int)=(n:Int):=by omega
  rw[k0];obtain⟨t,ht⟩:∃t,ts[n]?=some t:={_,Ad0 hi};refine{_,rfl,?_};simp!;rw[show ym9 [.int 4]=some (zm0 0 4) from rfl];refine zf1 (λi Z st'=>∃(x5 x6:Sl),Z=[Sl.bor (vc5 A5 A4 sh ts),.bor (zb2 ts),.own dd,.own (.lst ((ve2 A5 A4 sh ts n++vi4 A5 A4 sh ts n i).map Row.data)),.bor (.int n),x5,x6]/\(ve2 A5 A4 sh ts n++vi4 A5 A4 sh ts n i).length<=36*n+9*i) 0 {_,_,by rw[show vi4 A5 A4 sh ts n 0=[] from rfl,Bh0],by rw[show vi4 A5 A4 sh ts n 0=[] from rfl,Bh0];exact hl} (λi e Z st' he hI P2 pn2=>?_) λZ st' hI=>?_
  ·obtain⟨x5,x6,er,hl⟩:=hI
   obtain⟨rfl,hi4⟩:=zf8 he;rw[Ah0] at hl er;rw[Ah0] at pn2;obtain⟨B,hB⟩:∃B,B=ve2 A5 A4 sh ts n++vi4 A5 A4 sh ts n i:={_,rfl};rw[xk0,<-Ao0] at pn2;rw[<-hB] at hl er pn2;subst er;have k1:(0:Int)+(i:Int)=(i:Int):=by omega
   rw[k1];have hd:Dir (i:Int):={'o','o'};refine{_,rfl,?_};simp_all!;simp!;refine wl7 ho ht hd hdd λh9=>?_
   obtain⟨p,hp⟩:∃p,p=vj4 A5 A4 sh ts i n:={_,rfl};rw[<-hp] at h9 ⊢;have pim:D.immL (p.map zb2)=true:=zb1 (λ_=>zn6) p;have en:yj1 1 [.lst (p.map zb2)]=some (vo3 1 (p.map zb2)):=rfl;simp! [pim];simp! [vd8,zb1 zy1,en];refine zi5 (uk7 n i) (λZ=>∃x y,Z=[x,y,.bor (.int n),.bor (.int i)]) {_,_,rfl} (λd hd Z hI135=>?_) (zj1 (by rw[zp2,Aa0];omega)) ?_
   ·obtain⟨x,y,e⟩:=hI135
    subst e;obtain⟨j,hj⟩:=Bt0 hd;obtain⟨s,hs,rfl⟩:=yb7 hj;rw[Af0] at hs;cases q:p[j]? with
    | none=>rw[q] at hs;cases hs
    | some s'=>
      rw[q] at hs;have hs:zb2 s'=s:=Option.some.inj hs;subst hs;refine{_,rfl,{_,_,rfl},⟨rfl,rfl⟩,?_};have ot:vn1 [D.tup [.int n,.int i,.int (j+1:Nat)],zb2 s']=some (Row.data ⟨n,i,j+1,s'⟩):=vg5 zs7 zn6;simp! [uf2,ot];exact{rfl,zy1 _}
   ·rw[xs7]
    refine{_,yd9 (zb1 zy1 _) (by rw[Aa0,Aa0,yr7];omega),?_};rw[<-Ay0];rw[<-hp] at pn2;exact pn2 _ _ {_,_,rfl,by rw[Ak0,yr7];omega}
  ·obtain⟨x5,x6,er,hl⟩:=hI
   subst er;rw[Ah0,zd8] at hl ⊢;rw[<-xk1] at hl ⊢;exact pn _ _ {_,_,_,rfl,'o'}
 ·obtain⟨x4,x5,x6,er,hl⟩:=hI
  subst er;rw[Ah0,zd8,Bp0] at hl ⊢;simp! [zb1 zy1];exact hq 'o'
instance ui3:List D->Res Unit D:=dfn 2 2 (zs4 vy9).1
instance vz6(d:D):D:=match d with
 | .tup (a::_)=>a
 | _=>.non
def wt7{A5 A4:Int}{sh:List vc2}{ts:List Tr}{Q:D->Unit->Prop}{E:Exn->Unit->Prop}(ho:zd6 A5 A4 sh ts)(hq:(ve2 A5 A4 sh ts ts.length).length<=432->Q (.lst ((ve2 A5 A4 sh ts ts.length).map Row.push)) ()):wpR (ui3 [vc5 A5 A4 sh ts,zb2 ts]) Q E:=by
 refine zg3 rfl 'z' ?_;unfold zs4;dsimp only;simp!;refine wg7 ho λh4=>?_
 obtain⟨rows,hr⟩:∃rows,rows=ve2 A5 A4 sh ts ts.length:={_,rfl};rw[<-hr] at h4 hq ⊢;simp! [zb1 zy1];refine zi5 vz6 (λZ=>∃x y,Z=[x,y]) {_,_,rfl} (λd hd Z hI136=>?_) (zj1 (by rw[Aa0];omega)) ?_
 ·obtain⟨x,y,e⟩:=hI136
  subst e;obtain⟨r,_,rfl⟩:=Bb0.mp hd;refine{_,rfl,{_,_,rfl},⟨rfl,rfl⟩,?_};simp!;exact⟨rfl,zs7⟩
 ·have em:(rows.map Row.data).map vz6=rows.map Row.push:=by rw[Bq0];rfl
  rw[em];exact{.inr (zb1 (λr=>zs7) rows),hq h4}
section
variable{A5 A4:Int}{d:Int}{n:Nat}{k:Nat}
theorem vd6.det(h:vd6 A5 A4 sh d n ts k cur):∀{b:List Tr},vd6 A5 A4 sh d n ts k b->cur=b:=by
 induction h with
 | zero=>intro b hb;cases hb;rfl
 | succ _ hg ih=>
   intro b hb;cases hb with
   | succ h0 hg'=>
     have:=ih h0;subst this;rw[hg.one hg']
theorem vd6.pre(h:vd6 A5 A4 sh d n ts k cur):∀i,i<k->∃mid g,vd6 A5 A4 sh d n ts i mid/\ve8 A5 A4 sh mid d n g:=by
 induction h with
 | zero=>intro i hi;omega
 | @succ k mid g h0 hg ih=>
   intro i hi;by_cases h:i<k
   ·exact ih i h
   ·have:i=k:=by omega
    subst this;exact⟨mid,g,h0,hg⟩
theorem vd6.ok(h:vd6 A5 A4 sh d n ts k cur)(ho:zd6 A5 A4 sh ts):zd6 A5 A4 sh cur:=by
 induction h with
 | zero=>exact ho
 | succ _ hg ih=>exact ih.moved hg
theorem vd6.front{g:List Nat}(h1:ve8 A5 A4 sh ts d n g)(h:vd6 A5 A4 sh d n (ze9 ts g d) k cur):vd6 A5 A4 sh d n ts (k+1) cur:=by
 induction h with
 | zero=>exact .succ .zero h1
 | succ _ hg ih=>exact .succ ih hg
theorem vm5.get(h:vm5 A5 A4 sh d n ts l):∀{i:Nat} {s:List Tr},l[i]?=some s->vd6 A5 A4 sh d n ts (i+1) s:=by
 induction h with
 | stop _=>intro i s hs;simp at hs
 | go hg _ ih=>
   intro i s hs;cases i with
   | zero=>simp at hs;subst hs;exact .succ .zero hg
   | succ i=>exact .front hg (ih (by simpa using hs))
end
instance xd2:List D->Res Unit D:=dfn 9 3 (yb3 zy6 yk7).1
def wb4{A5 A4:Int}{sh:List vc2}{ts cur:List Tr}{n k:Nat}{d:Int}{t0:Tr}{Q:D->Unit->Prop}{E:Exn->Unit->Prop}(ho:zd6 A5 A4 sh ts)(hn:ts[n]?=some t0)(hd:Dir d)(hk9:k<=1000)(hst:vd6 A5 A4 sh d n ts k cur)(hq:Q (zb2 cur) ()):wpR (xd2 [vc5 A5 A4 sh ts,zb2 ts,vj7 n d k]) Q E:=by
 have go:=@zg3 9 3 (yb3 zy6 yk7).1 [vc5 A5 A4 sh ts,zb2 ts,vj7 n d k] Q E 'd' 'z';unfold xd2;with_reducible refine go ?_
 clear go;unfold yb3;dsimp only;have few:=ho.few;have hnl:n<ts.length:=(Ac0.mp hn).1;simp_all!;simp! [vj7];simp_all!;simp!;rw  [zb6];simp!;rw[zh2 'o' 'o'];refine zf1 (λi Z st'=>∃(mid:List Tr) (x7 x8:Sl),Z=[Sl.bor (vc5 A5 A4 sh ts),.bor (zb2 ts),.bor (vj7 n d k),.bor (.int n),.bor (.int d),.bor (.int k),.bor (zb2 mid),x7,x8]/\vd6 A5 A4 sh d n ts i mid) 0 {ts,_,_,rfl,.zero} (λi e Z st' he hI P pn=>?_) λZ st' hI=>?_
 ·obtain⟨mid,x7,x8,er,hm⟩:=hI
  obtain⟨rfl,hi⟩:=zf8 he;subst er;rw[Ah0] at hm;rw[Ah0] at pn;obtain⟨mid',g,hp,hg⟩:=hst.pre i 'o';have:=hm.det hp;subst this;obtain⟨t1,ht1⟩:∃t,mid[n]?=some t:={_,Ad0 (by rw[hm.len];exact hnl)};refine{_,rfl,?_};simp_all!;simp!;rw[<-zh4 hm.kind];refine yq2 (hm.ok ho) ht1 hd (λh=>absurd h (hg.not ht1)) λg' hg'=>?_
  have gf:(D.tup (ve1 g')).flat=false:=rfl;simp! [gf];simp_all!;simp! [vl0,D.isNon];refine xb8 hd (by rw[hm.len];omega) hg'.lt hg'.nd ?_;have sf:(zb2 (ze9 mid g' d)).flat=false:=rfl;simp! [sf];rw[zh4 hm.kind];exact pn _ _ {_,_,_,rfl,.succ hm hg'}
 ·obtain⟨mid,x7,x8,er,hm⟩:=hI
  subst er;rw[Ah0,zd8,Bp0] at hm;have:=hst.det hm;subst this;have own:own? [Sl.bor (vc5 A5 A4 sh ts),.bor (zb2 ts),.bor (vj7 n d k),.bor (.int n),.bor (.int d),.bor (.int k),.bor (zb2 cur),x7,x8] 6=some (zb2 cur):=by
   show (if (zb2 cur).imm=true then some (zb2 cur) else none)=_;rw[if_pos zn6]
  simp only[wp_sRetV];exact{_,own,hq}
section
variable{α:Type}[DecidableEq α]
instance vf0(W:List α):List α->List α
 | []=>[]
 | e::es=>if e∈W then vf0 W es else e::vf0 (W++[e]) es
theorem yn1:∀(W a b:List α),vf0 W (a++b)=vf0 W a++vf0 (W++vf0 W a) b
 | W,[],b=>by simp[vf0]
 | W,e::a,b=>by
   show (if e∈W then vf0 W (a++b) else e::vf0 (W++[e]) (a++b))=(if e∈W then vf0 W a else e::vf0 (W++[e]) a)++vf0 (W++(if e∈W then vf0 W a else e::vf0 (W++[e]) a)) b;by_cases h:e∈W
   ·rw[if_pos h,if_pos h];exact yn1 W a b
   ·rw[if_neg h,if_neg h,yn1,List.cons_append,Ao0];rfl
def xs9{e:α}:vf0 W (a++[e])=vf0 W a++(if e∈W++vf0 W a then [] else [e]):=by
 rw[yn1];rfl
theorem zw5{x:α}:∀{es W:List α},x∈vf0 W es↔x∈es/\x∉W
 | [],W=>by simp[vf0]
 | e::es,W=>by
   unfold vf0;by_cases h:e∈W
   ·rw[if_pos h,zw5]
    constructor
    ·exact λ⟨a,b⟩=>{Bg0 _ a,b}
    ·rintro ⟨a,b⟩
     rcases Aj0.mp a with rfl | a
     ·exact absurd h b
     ·exact⟨a,b⟩
   ·rw[if_neg h,Aj0,zw5]
    constructor
    ·rintro (rfl | ⟨a,b⟩)
     ·exact⟨Bi0,h⟩
     ·exact{Bg0 _ a,λz=>b (By0 _ z)}
    ·rintro ⟨a,b⟩
     by_cases q:x=e
     ·exact .inl q
     ·refine .inr {(Aj0.mp a).resolve_left q,λz=>?_}
      rcases Ar0.mp z with z | z
      ·exact b z
      ·exact q (Al0.mp z)
theorem ye1:∀{es W:List α},W.Nodup->(W++vf0 W es).Nodup
 | [],W,h=>by simpa [vf0] using h
 | e::es,W,h=>by
   unfold vf0;by_cases q:e∈W
   ·rw[if_pos q];exact ye1 h
   ·rw[if_neg q]
    have h':(W++[e]).Nodup:=Ci0.mpr {h,'d',λa ha b hb e'=>by rw[Al0.mp hb] at e';exact q (e'▸ha)};have:=ye1 (es:=es) h';rwa [Ao0] at this
structure Bf(α:Type)[DecidableEq α] where
 nb:α->List α
 srt:List α->List α
 perm:∀l,(srt l).Perm l
 s:α
instance Bf.st(B:Bf α):Nat->List α×List α
 | 0=>([B.s],[B.s])
 | n+1=>(B.srt (vf0 (B.st n).2 ((B.st n).1.flatMap B.nb)),(B.st n).2++vf0 (B.st n).2 ((B.st n).1.flatMap B.nb))
noncomputable abbrev Bf.L(B:Bf α)(n:Nat):List α:=(B.st n).1
noncomputable abbrev Bf.S(B:Bf α)(n:Nat):List α:=(B.st n).2
variable{B:Bf α}
theorem Bf.nd:∀n,(B.S n).Nodup
 | 0=>by show [B.s].Nodup;simp
 | n+1=>ye1 (Bf.nd n)
instance Bf.F(B:Bf α)(n:Nat):List (List α):=(List.range n).map B.L
def Bf.F_succ{n:Nat}:B.F (n+1)=B.F n++[B.L n]:=by unfold Bf.F;rw[Cs0,Ay0];rfl
theorem Bf.all:∀n,(B.F (n+1)).flatten.Perm (B.S n)
 | 0=>by show ([[B.s]]:List (List α)).flatten.Perm [B.s];simp
 | n+1=>by
   rw[Bf.F_succ,List.flatten_append];refine(Bf.all n).append ?_;simp only[Cj0,List.flatten_nil,Bh0];exact B.perm _
def Bf.flat_nd(n:Nat):(B.F (n+1)).flatten.Nodup:=(Bf.all n).nodup_iff.mpr (Bf.nd n)
def Bf.mem_S{n:Nat}{x:α}:x∈B.S n↔∃i,i<=n/\x∈B.L i:=by
 rw[<-(Bf.all n).mem_iff,List.mem_flatten];unfold Bf.F;constructor
 ·rintro ⟨l,hl,hx⟩
  obtain⟨i,hi,rfl⟩:=Bb0.mp hl;exact{i,by have:=Bw0.mp hi;omega,hx}
 ·rintro ⟨i,hi,hx⟩
  exact{_,Bb0.mpr {i,Bw0.mpr 'o',rfl},hx}
def Bf.new{n:Nat}{x:α}:x∈B.L (n+1)↔(∃p∈B.L n,x∈B.nb p)/\x∉B.S n:=by
 show x∈B.srt _↔_;rw[(B.perm _).mem_iff,zw5,Cd0]
theorem Bf.lt{i j:Nat}{x:α}(h:i<j)(hi:x∈B.L i)(hj:x∈B.L j):False:=by
 cases j with
 | zero=>omega
 | succ j=>exact(Bf.new.mp hj).2 (Bf.mem_S.mpr {i,'o',hi})
def Bf.one{i j:Nat}{x:α}(hi:x∈B.L i)(hj:x∈B.L j):i=j:=by
 rcases Nat.lt_trichotomy i j with h | h | h
 ·exact(Bf.lt h hi hj).elim
 ·exact h
 ·exact(Bf.lt h hj hi).elim
open H in
def Bf.next{i:Nat}{p q:α}(hp:p∈B.L i)(hq:q∈B.nb p):∃j,j<=i+1/\q∈B.L j:=by
 by_cases h:q∈B.S i
 ·obtain⟨j,hj,z⟩:=Bf.mem_S.mp h
  exact{j,'o',z}
 ·exact{i+1,Ae0 _,Bf.new.mpr {⟨p,hp,hq⟩,h}}
def Bf.nil{i:Nat}(h:B.L i=[]):B.L (i+1)=[]:=by
 refine List.eq_nil_iff_forall_not_mem.mpr λx hx=>?_
 obtain⟨⟨p,hp,_⟩,_⟩:=Bf.new.mp hx;rw[h] at hp;cases hp
theorem Bf.nils{i j:Nat}(hij:i<=j)(h:B.L i=[]):B.L j=[]:=by
 induction hij with
 | refl=>exact h
 | step _ ih=>exact Bf.nil ih
theorem Bf.le:∀{n:Nat},(∀i,i<=n->B.L i≠[])->n+1<=(B.S n).length
 | 0,_=>by show 1<=([B.s]:List α).length;simp
 | n+1,h=>by
   have:=Bf.le (n:=n) λi hi=>h i 'o'
   have hl:0<(B.L (n+1)).length:=by
    cases q:B.L (n+1) with
    | nil=>exact absurd q (h _ (Ae0 _))
    | cons a l=>simp
   have e:(B.L (n+1)).length=(vf0 (B.st n).2 ((B.st n).1.flatMap B.nb)).length:=(B.perm _).length_eq;show n+1+1<=((B.st n).2++vf0 (B.st n).2 ((B.st n).1.flatMap B.nb)).length;rw[Ak0];have t:n+1<=(B.st n).2.length:=this;omega
theorem Bf.good{G:α->Prop}(h0:G B.s)(h1:∀p q,G p->q∈B.nb p->G q):∀n,∀x∈B.L n,G x
 | 0,x,hx=>by rw[Al0.mp hx];exact h0
 | n+1,x,hx=>by
   obtain⟨⟨p,hp,hq⟩,_⟩:=Bf.new.mp hx;exact h1 p x (Bf.good h0 h1 n p hp) hq
def Bf.goodS{G:α->Prop}(h0:G B.s)(h1:∀p q,G p->q∈B.nb p->G q){n:Nat}{x:α}(hx:x∈B.S n):G x:=by
 obtain⟨i,_,z⟩:=Bf.mem_S.mp hx;exact Bf.good h0 h1 i x z
def Bf.keep{n:Nat}(h:B.L n=[]){j:Nat}(hj:n<=j){x:α}(hx:x∈B.S j):∃i,i<n/\x∈B.L i:=by
 obtain⟨i,_,z⟩:=Bf.mem_S.mp hx;by_cases q:i<n
 ·exact⟨i,q,z⟩
 ·rw[Bf.nils 'o' h] at z;cases z
end
instance Tr.pos(t:Tr):vc2:=(t.x,t.y)
section
variable{A5 A4:Int}{sh:List vc2}{ts us vs:List Tr}
def yd3{m:Nat}{r:Row}(h:r∈ve2 A5 A4 sh ts m):r.n<m/\Dir r.d/\1<=r.k/\vd6 A5 A4 sh r.d r.n ts r.k r.ts:=by
 unfold ve2 vi4 at h;obtain⟨n,hn,h⟩:=Cd0.mp h;obtain⟨d,hd,h⟩:=Cd0.mp h;have hn:=Bw0.mp hn;have hd:=Bw0.mp hd;unfold vl6 at h;obtain⟨⟨s,i⟩,hq,rfl⟩:=Bb0.mp h;obtain⟨a,b,c⟩:=List.mem_zipIdx hq;have hs:(vj4 A5 A4 sh ts d n)[i-1]?=some s:=by
  rw[c];exact Ad0 _
 have e:∃l,vm5 A5 A4 sh d n ts l:=by
  apply Classical.byContradiction;intro e;unfold vj4 at hs;rw[dif_neg e] at hs;simp at hs
 obtain⟨l,hl⟩:=e;rw[hl.is] at hs;have:=hl.get hs;rw[show i-1+1=i by omega] at this;exact{hn,{by show (0:Int)<=d;omega,by show (d:Int)<4;omega},a,this}
structure Sib(t u:Tr):Prop where
 w:u.w=t.w
 h:u.h=t.h
 ways:u.ways=t.ways
 s:u.s=t.s
 x:ve3 t.ways 0=false->u.x=t.x
 y:ve3 t.ways 1=false->u.y=t.y
def Sib.refl{t:Tr}:Sib t t:={rfl,rfl,rfl,rfl,λ_=>rfl,λ_=>rfl}
def Sib.trans{t u v:Tr}(a:Sib t u)(b:Sib u v):Sib t v:=
 {b.w.trans a.w,b.h.trans a.h,b.ways.trans a.ways,b.s.trans a.s,λh=>(b.x (by rw[a.ways];exact h)).trans (a.x h),λh=>(b.y (by rw[a.ways];exact h)).trans (a.y h)}
def Sib.to{t:Tr}{d:Int}(hd:Dir d)(h:ve3 t.ways d=true):Sib t (t.to d):=by
 refine{rfl,rfl,rfl,rfl,λe=>?_,λe=>?_}
 ·show t.x+dx d=t.x
  rcases hd.cases with rfl | rfl | rfl | rfl
  ·rw[h] at e;cases e
  ·simp[dx]
  ·have:ve3 t.ways 2=ve3 t.ways 0:=rfl
   rw[<-this,h] at e;cases e
  ·simp[dx]
 ·show t.y+dy d=t.y
  rcases hd.cases with rfl | rfl | rfl | rfl
  ·simp[dy]
  ·rw[h] at e;cases e
  ·simp[dy]
  ·have:ve3 t.ways 3=ve3 t.ways 1:=rfl
   rw[<-this,h] at e;cases e
structure vl4(ts us:List Tr):Prop where
 len:us.length=ts.length
 at_:∀(i:Nat) t u,ts[i]?=some t->us[i]?=some u->Sib t u
def vl4.refl:vl4 ts ts:={rfl,λi t u h1 h2=>by rw[h1] at h2;cases h2;exact .refl}
def vl4.trans(a:vl4 ts us)(b:vl4 us vs):vl4 ts vs:={b.len.trans a.len,λi t v h1 h2=>by
 have hi:i<us.length:=by rw[a.len];exact(Ac0.mp h1).1
 have hu:=Ad0 hi;exact(a.at_ i t _ h1 hu).trans (b.at_ i _ v hu h2)}
open H in
theorem vd6.sibs{d:Int}{n k:Nat}(hd:Dir d)(h:vd6 A5 A4 sh d n ts k us):vl4 ts us:=by
 induction h with
 | zero=>exact .refl
 | @succ k mid g h0 hg ih=>
   refine ih.trans {zj0,λi t u h1 h2=>?_};rw[zg0,h1] at h2;have h2:(if i∈g then t.to d else t)=u:=Option.some.inj h2;subst h2;split
   ·rename_i hi;exact .to hd (hg.ok i hi t h1).1
   ·exact .refl
theorem vl4.kind(a:vl4 ts us):us.map Tr.kind=ts.map Tr.kind:=by
 refine Ck0 λi=>?_
 rw[Af0,Af0];cases q:ts[i]? with
 | none=>rw[List.getElem?_eq_none (by rw[a.len];exact List.getElem?_eq_none_iff.mp q)]
 | some t=>
   have hi:i<us.length:=by rw[a.len];exact(Ac0.mp q).1
   have hu:=Ad0 hi;have z:=a.at_ i t _ q hu;rw[hu];show some (kd _ _ _ _)=some (kd _ _ _ _);rw[z.w,z.h,z.ways,z.s]
instance Tr.at_(t:Tr)(p:vc2):Tr:={ t with x:=p.1,y:=p.2 }
instance atT(ts:List Tr)(ps:List vc2):List Tr:=List.zipWith Tr.at_ ts ps
theorem vl4.at_eq(a:vl4 ts us):atT ts (us.map Tr.pos)=us:=by
 refine Ck0 λi=>?_
 unfold atT;rw[List.getElem?_zipWith,Af0];cases q:ts[i]? with
 | none=>rw[List.getElem?_eq_none (by rw[a.len];exact List.getElem?_eq_none_iff.mp q)]
 | some t=>
   have hi:i<us.length:=by rw[a.len];exact(Ac0.mp q).1
   have hu:=Ad0 hi;have z:=a.at_ i t _ q hu;rw[hu];show some (Tr.at_ t (Tr.pos us[i]))=some us[i];have:∀u:Tr,Sib t u->Tr.at_ t u.pos=u:=λu z=>by
    obtain⟨w,h,ways,s,x,y⟩:=u;obtain⟨e1,e2,e3,e4,_,_⟩:=z;simp only at e1 e2 e3 e4;unfold Tr.at_ Tr.pos;rw[e1,e2,e3,e4]
   rw[this _ z]
def zg8:zb2 us=plD (us.map Tr.pos):=by unfold zb2;show D.tup _=D.tup _;rw[Bq0];rfl
instance xi5(A5:Int)(t:Tr):Nat:=if ve3 t.ways 0 then (A5-t.w+1).toNat else 1
instance yq7(A4:Int)(t:Tr):Nat:=if ve3 t.ways 1 then (A4-t.h+1).toNat else 1
instance zz2(A5 A4:Int)(t:Tr):List vc2:=(List.range (xi5 A5 t)).flatMap λi:Nat=>(List.range (yq7 A4 t)).map λj:Nat=>(if ve3 t.ways 0 then (i:Int) else t.x,if ve3 t.ways 1 then (j:Int) else t.y)
theorem yo2{α β:Type}{f:α->List β}{n:Nat}:∀{l:List α},(∀a,(f a).length=n)->(l.flatMap f).length=l.length*n
 | [],_=>by simp
 | a::l,h=>by rw[List.flatMap_cons,Ak0,yo2 h,h a,Ax0,Nat.succ_mul,Nat.add_comm]
def xk3{t:Tr}:(zz2 A5 A4 t).length=xi5 A5 t*yq7 A4 t:=by
 unfold zz2;rw[yo2 (n:=yq7 A4 t) (λi=>by rw[Aa0,Bo0]),Bo0]
def yx5(h:vw5 A5 A4 sh t):((zz2 A5 A4 t).length:Int)=zk1 A5 A4 t.w t.h t.ways:=by
 have z1:((A5-t.w+1).toNat:Int)=A5-t.w+1:=Int.toNat_of_nonneg (by have:=h.x0;have:=h.xw;omega);have z2:((A4-t.h+1).toNat:Int)=A4-t.h+1:=Int.toNat_of_nonneg (by have:=h.y0;have:=h.yh;omega);rw[xk3,Int.natCast_mul];unfold xi5 yq7;rcases h.ways with e | e | e | e<;>rw[e]
 ·rw[if_pos 'z',if_pos 'z',z1,z2];rfl
 ·rw[if_pos 'z',if_neg 'z',z1];unfold zk1;rw[if_neg 'z',if_pos 'z'];exact Int.mul_one _
 ·rw[if_neg 'z',if_pos 'z',z2];unfold zk1;rw[if_neg 'z',if_neg 'z',if_pos 'z'];exact Int.one_mul _
 ·rw[if_neg 'z',if_neg 'z'];unfold zk1;rw[if_neg 'z',if_neg 'z',if_neg 'z'];rfl
def xk2(h:Sib t u)(hu:vw5 A5 A4 sh u):u.pos∈zz2 A5 A4 t:=by
 have b1:=hu.x0;have b2:=hu.xw;have b3:=hu.y0;have b4:=hu.yh;have e1:=h.w;have e2:=h.h;unfold zz2;rw[Cd0];refine{if ve3 t.ways 0 then u.x.toNat else 0,?_,Bb0.mpr {if ve3 t.ways 1 then u.y.toNat else 0,?_,?_}}
 ·unfold xi5
  rw[Bw0];split<;>omega
 ·unfold yq7
  rw[Bw0];split<;>omega
 ·unfold Tr.pos
  refine Prod.ext ?_ ?_
  ·show (if ve3 t.ways 0 then ((if ve3 t.ways 0 then u.x.toNat else 0:Nat):Int) else t.x)=u.x
   cases q:ve3 t.ways 0 with
   | true=>simp only[if_true];exact Int.toNat_of_nonneg b1
   | false=>simp only[Bf0,if_false];exact(h.x q).symm
  ·show (if ve3 t.ways 1 then ((if ve3 t.ways 1 then u.y.toNat else 0:Nat):Int) else t.y)=u.y
   cases q:ve3 t.ways 1 with
   | true=>simp only[if_true];exact Int.toNat_of_nonneg b3
   | false=>simp only[Bf0,if_false];exact(h.y q).symm
instance vs3(A5 A4:Int):List Tr->List (List vc2)
 | []=>[[]]
 | t::ts=>(zz2 A5 A4 t).flatMap λp=>(vs3 A5 A4 ts).map (p::·)
theorem xi4:∀{ts:List Tr},(∀t∈ts,vw5 A5 A4 sh t)->((vs3 A5 A4 ts).length:Int)=vg4 A5 A4 ts
 | [],_=>rfl
 | t::ts,h=>by
   show (((zz2 A5 A4 t).flatMap λp=>(vs3 A5 A4 ts).map (p::·)).length:Int)=zk1 A5 A4 t.w t.h t.ways*vg4 A5 A4 ts;rw[<-yx5 (h t Bi0),<-xi4 λu hu=>h u (Bg0 _ hu),yo2 (n:=(vs3 A5 A4 ts).length) (λp=>by rw[Aa0]),Int.natCast_mul]
theorem xi3:∀{ts us:List Tr},vl4 ts us->(∀u∈us,vw5 A5 A4 sh u)->us.map Tr.pos∈vs3 A5 A4 ts
 | [],us,a,_=>by
   have:us=[]:=Cv0.mp a.len;subst this;exact Al0.mpr rfl
 | t::ts,[],a,_=>by have:=a.len;simp at this
 | t::ts,u::us,a,h=>by
   show u.pos::us.map Tr.pos∈(zz2 A5 A4 t).flatMap λp=>(vs3 A5 A4 ts).map (p::·)
   refine Cd0.mpr {u.pos,xk2 (a.at_ 0 t u rfl rfl) (h u Bi0),Bb0.mpr {_,xi3 {by have:=a.len;simpa using this,λi x y h1 h2=>a.at_ (i+1) x y h1 h2} λv hv=>h v (Bg0 _ hv),rfl}}
theorem zw4{α:Type}[DecidableEq α]:∀{l m:List α},l.Nodup->(∀x∈l,x∈m)->l.length<=m.length
 | [],m,_,_=>An0 _
 | a::l,m,h,s=>by
   have h':=Ch0.mp h;have:=zw4 (l:=l) (m:=m.erase a) h'.2 λx hx=>(List.mem_erase_of_ne (λe:x=a=>h'.1 (e▸hx))).mpr (s x (Bg0 _ hx))
   rw[List.length_erase_of_mem (s a Bi0)] at this;have p:0<m.length:=List.length_pos_of_mem (s a Bi0);simp only[Ax0];omega
end
section
variable{A5 A4:Int}
instance Gd(A5 A4:Int)(sh:List vc2)(ts:List Tr)(p:List vc2):Prop:=∃us,p=us.map Tr.pos/\zd6 A5 A4 sh us/\vl4 ts us
def Gd.few(ho:zd6 A5 A4 sh ts)(hp:vg4 A5 A4 ts<=81){l:List (List vc2)}(nd:l.Nodup)(h:∀p∈l,Gd A5 A4 sh ts p):l.length<=81/\okS l=true:=by
 have h1:l.length<=(vs3 A5 A4 ts).length:=zw4 nd λp hpl=>by
  obtain⟨us,rfl,hu,hs⟩:=h p hpl;exact xi3 hs hu.tr
 have h2:=xi4 ho.tr;refine{'o',?_};unfold okS;rw[Bool.and_eq_true];refine{Ap1 'o',?_};rw[Bool.or_eq_true];by_cases e:ts=[]
 ·subst e
  have:(vs3 A5 A4 []).length=1:=rfl;exact .inl (Ap1 'o')
 ·refine .inr (Cm0.mpr λp hpl=>?_)
  obtain⟨us,rfl,_,hs⟩:=h p hpl;have:us≠[]:=λz=>by subst z;have:=hs.len;exact e (Cv0.mp this.symm)
  cases us with
  | nil=>exact absurd rfl this
  | cons _ _=>rfl
instance bfs(A5 A4:Int)(sh:List vc2)(ts:List Tr):Bf (List vc2) where
 nb:=λp=>(ve2 A5 A4 sh (atT ts p) ts.length).map λr=>r.ts.map Tr.pos
 srt:=λl=>ve0 Ts.stO l
 perm:=λl=>zi6 (O:=Ts.stO) l
 s:=ts.map Tr.pos
def gd0(ho:zd6 A5 A4 sh ts):Gd A5 A4 sh ts (bfs A5 A4 sh ts).s:={ts,rfl,ho,.refl}
def vv0{us:List Tr}(h:vl4 ts us):(bfs A5 A4 sh ts).nb (us.map Tr.pos)=(ve2 A5 A4 sh us us.length).map λr=>r.ts.map Tr.pos:=by
 show (ve2 A5 A4 sh (atT ts (us.map Tr.pos)) ts.length).map _=_;rw[h.at_eq,h.len]
def gd1(hp:Gd A5 A4 sh ts p)(hq:q∈(bfs A5 A4 sh ts).nb p):Gd A5 A4 sh ts q:=by
 obtain⟨us,rfl,ho,hs⟩:=hp;rw[vv0 hs] at hq;obtain⟨r,hr,rfl⟩:=Bb0.mp hq;obtain⟨_,hd,_,st⟩:=yd3 hr;exact{r.ts,rfl,st.ok ho,hs.trans (st.sibs hd)}
def gdL(ho:zd6 A5 A4 sh ts){n:Nat}:∀p∈(bfs A5 A4 sh ts).L n,Gd A5 A4 sh ts p:=Bf.good (gd0 ho) (λ_ _=>gd1) n
def gdS(ho:zd6 A5 A4 sh ts){n:Nat}:∀p∈(bfs A5 A4 sh ts).S n,Gd A5 A4 sh ts p:=λp hp=>Bf.goodS (gd0 ho) (λ_ _=>gd1) hp
end
noncomputable abbrev SD(W:List (List vc2))(vs:List D):D:=.dct (.non::W.map plD) vs
theorem yt5:∀p:List vc2,vj2 (p.map prD)=some (kyS p)
 | []=>rfl
 | a::p=>by
   show (yj5 (prD a)).bind (λx=>(vj2 (p.map prD)).map λr=>x::r)=_;rw[yt5 p];rfl
def zp6(p:List vc2):zc0 (plD p)=some (kyS p):=yt5 p
def yp2(p:List vc2):vc4 (kyS p)=plD p:=by
 unfold vc4 kyS;show D.tup _=D.tup _;rw[Bq0];rfl
theorem yz3:∀{p q:List vc2},kyS p=kyS q->p=q
 | [],[],_=>rfl
 | [],_::_,h=>by cases h
 | _::_,[],h=>by cases h
 | a::p,b::q,h=>by
   have h':=List.cons.inj h;have h1:a.1=b.1/\a.2=b.2:=by simpa using h'.1
   rw[yz3 h'.2,Prod.ext h1.1 h1.2]
theorem yz0:∀{W:List (List vc2)} {vs:List D},vs.length=W.length->(vc1 (kyS p) (W.map plD) vs).isSome=decide (p∈W)
 | [],vs,h=>by cases vs with
   | nil=>simp[vc1]
   | cons _ _=>cases h
 | q::W,[],h=>by cases h
 | q::W,u::vs,h=>by
   show (vc1 (kyS p) (plD q::W.map plD) (u::vs)).isSome=_;unfold vc1;rw[zp6];by_cases e:q=p
   ·subst e;simp
   ·have e':kyS q≠kyS p:=λz=>e (yz3 z)
    have e2:¬p=q:=λz=>e z.symm
    rw[if_neg (by simpa using e'),yz0 (by simpa using h)];simp[e2]
def wi0(h:vs.length=W.length)(hp:p∉W):ve4 (kyS p) v (W.map plD) vs=((W++[p]).map plD,vs++[v]):=by
 unfold ve4;rw[yz0 h,if_neg (by simpa using hp),yp2,Ay0];rfl
def vv4(neg:Bool)(h:vs.length=W.length):vl1 neg (plD p) (SD W vs)=some (.bl (if neg then !decide (p∈W) else decide (p∈W))):=by
 unfold vl1;show (zc0 (plD p)).map _=_;rw[zp6,At0,yz0 h]
def wn4(h:vs.length=W.length)(hp:p∉W)(hv:v.imm=true)(hl:W.length<sizeLine):vr9 (SD W vs) (plD p) v=some (SD (W++[p]) (vs++[v])):=by
 unfold vr9;show (zc0 (plD p)).bind _=_;rw[zp6,Bu0,if_pos {hv,by rw[Aa0];exact hl},wi0 h hp]
def xd3(p:List vc2):(plD p).imm=true:=by rw[imm_tup];exact zb1 zc4 p
def zo9(l:List (List vc2)):D.immL (l.map plD)=true:=zb1 xd3 l
section
variable{i:Nat}{Z:Rho}{st:D}{Q:D->D->Prop}{QF:Fl->D->Prop}{E:Exn->D->Prop}{fk fv:Fn D}
def zy9:hnd? Z i=true↔Z[i]?=some .hnd:={yb9,λh=>by unfold hnd?;rw[h]}
def wl6{neg:Bool}:wpR (vx1 neg i fk Z st) Q E↔Z[i]?=some .hnd/\wpR (fk Z st) (λdk st1=>wpR (vd2 (vl1 neg dk st1) st1) Q E) E:=by
 unfold vx1;by_cases h:hnd? Z i=true
 ·rw[if_pos h,za2];exact{λq=>{zy9.mp h,q},λq=>q.2}
 ·rw[if_neg h];exact{λq=>q.elim,λq=>absurd (zy9.mpr q.1) h}
def wb7:wpR (vr5 i Z st) Q E↔Z[i]?=some .hnd/\wpR (vd2 (vj9 [st]) st) Q E:=by
 unfold vr5;by_cases h:hnd? Z i=true
 ·rw[if_pos h];exact{λq=>{zy9.mp h,q},λq=>q.2}
 ·rw[if_neg h];exact{λq=>q.elim,λq=>absurd (zy9.mpr q.1) h}
def wb3:wpR (vt3 i fk fv Z st) QF E↔wpR (fv Z st) (λv st1=>Z[i]?=some .hnd/\wpR (fk Z st1) (λk st2=>∃d,vr9 st2 k v=some d/\QF (.nx Z) d) E) E:=by
 unfold vt3;refine wpB λv st1=>?_
 by_cases h:hnd? Z i=true
 ·rw[if_pos h]
  refine Iff.trans (wpB (P:=λk st2=>∃d,vr9 st2 k v=some d/\QF (.nx Z) d) λk st2=>?_) {λq=>{zy9.mp h,q},λq=>q.2};rw[za2,za9];exact Iff.rfl
 ·rw[if_neg h];exact{λq=>q.elim,λq=>absurd (zy9.mpr q.1) h}
end
instance yx7:List D->D->Res D D:=vp8 1 1 zi9.1
def xm8(h:W.length<=1000)(hq:Q .non (SD W vs)):wpR (yx7 [] (SD W vs)) Q E:=by
 refine yc7 rfl 'z' ?_;unfold zi9;dsimp only;have el:vj9 [SD W vs]=some (.int W.length):=by
  unfold vj9;show (if (W.map plD).length<=1000 then some (D.int (W.map plD).length) else none)=_;rw[Aa0,if_pos h]
 have lt:decide ((2000:Int)<(W.length:Int))=false:=Ao1 'o';simp! [wb7,el,vg7,lt];exact hq
instance lbF:List D->D->Res D D:=vw3 7 3 (zn0 vy9 yx7).1
theorem wl8{S:Type}{n p:Nat}{B:FnS S}{l:List D}{st:S}{Q:D->S->Prop}{E:Exn->S->Prop}(hl:l.length+1=p)(hp:p<=n)(h:wpR (B (vo9 n l) st) (λfl st=>match fl with
 | .rt d=>Q d st
 | .nx _=>Q .non st
 | _=>False) E):wpR (vw3 n p B l st) Q E:=by
 unfold vw3;rw[if_pos ⟨hl,hp⟩];cases q:B (vo9 n l) st with
 | bad=>rw[q] at h;exact h
 | exc x u=>rw[q] at h;exact h
 | ok fl u=>rw[q] at h;cases fl<;>exact h
section
variable{A5 A4:Int}
def uc4{n:Nat}{vs:List D}{Q:D->D->Prop}{E:Exn->D->Prop}(ho:zd6 A5 A4 sh ts)(hp:vg4 A5 A4 ts<=81)(hv:vs.length=((bfs A5 A4 sh ts).S n).length)(hi:D.immL vs=true)(hq:∀vs',vs'.length=((bfs A5 A4 sh ts).S (n+1)).length->D.immL vs'=true->Q (.lst (((bfs A5 A4 sh ts).L (n+1)).map plD)) (SD ((bfs A5 A4 sh ts).S (n+1)) vs')) :
 wpR (lbF [vc5 A5 A4 sh ts,.fl (((bfs A5 A4 sh ts).L n).map plD)] (SD ((bfs A5 A4 sh ts).S n) vs)) Q E:=by
 refine wl8 rfl 'z' ?_;unfold zn0;dsimp only;obtain⟨B,hB⟩:∃B,B=bfs A5 A4 sh ts:={_,rfl};have hgS:∀n,∀p∈B.S n,Gd A5 A4 sh ts p:=λn=>by rw[hB];exact gdS ho
 have hgL:∀n,∀p∈B.L n,Gd A5 A4 sh ts p:=λn=>by rw[hB];exact gdL ho
 have nbq:∀us,vl4 ts us->B.nb (us.map Tr.pos)=(ve2 A5 A4 sh us us.length).map λr=>r.ts.map Tr.pos:=λus h=>by rw[hB];exact vv0 h
 have gX:∀p q,Gd A5 A4 sh ts p->q∈B.nb p->Gd A5 A4 sh ts q:=λp q=>by rw[hB];exact gd1
 have hsrt:∀l,B.srt l=ve0 Ts.stO l:=λl=>by rw[hB];rfl
 rw[<-hB] at hq hv ⊢;clear hB;have few:∀es:List (List vc2),(∀p∈es,Gd A5 A4 sh ts p)->(B.S n++vf0 (B.S n) es).length<=81:=λes h=>(Gd.few ho hp (ye1 (Bf.nd n)) λp hp=>by
  rcases Ar0.mp hp with z | z
  ·exact hgS n p z
  ·exact h p (zw5.mp z).1).1
 rw[show vo9 7 [vc5 A5 A4 sh ts,D.fl ((B.L n).map plD)]=[Sl.bor (vc5 A5 A4 sh ts),.bor (.fl ((B.L n).map plD)),.hnd,.no,.no,.no,.no] from rfl];simp_all!;simp! [vh3];simp_all!;simp!;refine zf1 (λi Z st'=>∃(x4 x5 x6:Sl) (vs':List D),Z=[Sl.bor (vc5 A5 A4 sh ts),.bor (.fl ((B.L n).map plD)),.hnd,.own (.lst ((vf0 (B.S n) (((B.L n).take i).flatMap B.nb)).map plD)),x4,x5,x6]/\st'=SD (B.S n++vf0 (B.S n) (((B.L n).take i).flatMap B.nb)) vs'/\vs'.length=(B.S n++vf0 (B.S n) (((B.L n).take i).flatMap B.nb)).length/\D.immL vs'=true) 0 {_,_,_,vs,rfl,by simp[vf0],by simpa [vf0] using hv,hi} (λi e Z st' he hI P pn=>?_) λZ st' hI=>?_
 ·obtain⟨x4,x5,x6,vs',er,es,hl,hi'⟩:=hI
  rw[Af0] at he;cases q:(B.L n)[i]? with
  | none=>rw[q] at he;cases he
  | some p=>
    rw[q] at he;cases he;subst er es;obtain⟨us,rfl,hou,hsu⟩:=hgL n p (Am0 q);have tk:(B.L n).take (0+i+1)=(B.L n).take (0+i)++[us.map Tr.pos]:=by rw[Ah0,Av0,q];rfl
    have hG:∀q∈((B.L n).take (0+i)).flatMap B.nb,Gd A5 A4 sh ts q:=λq' hq'=>by
     obtain⟨p',hp',z⟩:=Cd0.mp hq';exact gX p' q' (hgL n p' (List.mem_of_mem_take hp')) z
    have tk':((B.L n).take (0+i+1)).flatMap B.nb=((B.L n).take (0+i)).flatMap B.nb++B.nb (us.map Tr.pos):=by rw[tk,Cl0];simp
    have hG2:∀q∈B.nb (us.map Tr.pos),Gd A5 A4 sh ts q:=λq' hq'=>gX _ q' (hgL n _ (Am0 q)) hq'
    rw[tk'] at pn;generalize ((B.L n).take (0+i)).flatMap B.nb=es at hG pn hl;clear tk tk';refine{_,rfl,?_};simp_all!;simp!;rewrite [<-zg8,<-zh4 hsu.kind];refine wg7 hou λh4=>?_
    have nbe:=nbq us hsu;generalize ve2 A5 A4 sh us us.length=rows at h4 nbe;simp! [zb1 zy1];refine zf1 (λj Z st'=>∃(x5 x6:Sl) (vs':List D),Z=[Sl.bor (vc5 A5 A4 sh us),.bor (.fl ((B.L n).map plD)),.hnd,.own (.lst ((vf0 (B.S n) (es++(B.nb (us.map Tr.pos)).take j)).map plD)),.bor (zb2 us),x5,x6]/\st'=SD (B.S n++vf0 (B.S n) (es++(B.nb (us.map Tr.pos)).take j)) vs'/\vs'.length=(B.S n++vf0 (B.S n) (es++(B.nb (us.map Tr.pos)).take j)).length/\D.immL vs'=true) 0 {x5,x6,vs','d','d',by simpa using hl,hi'} (λj e Z st' he hI P2 pn2=>?_) λZ st' hI=>?_
    ·obtain⟨x5,x6,vs2,er,est,hl2,hi2⟩:=hI
     rw[Af0] at he;cases q2:rows[j]? with
     | none=>rw[q2] at he;cases he
     | some r=>
       rw[q2] at he;cases he;subst er est;have tk2:(B.nb (us.map Tr.pos)).take (0+j+1)=(B.nb (us.map Tr.pos)).take (0+j)++[r.ts.map Tr.pos]:=by rw[Ah0,Av0,nbe,Af0,q2];rfl
       have hG3:∀p∈es++(B.nb (us.map Tr.pos)).take (0+j),Gd A5 A4 sh ts p:=λp hp=>by
        rcases Ar0.mp hp with z | z
        ·exact hG p z
        ·exact hG2 p (List.mem_of_mem_take z)
       rw[tk2,<-Ao0,xs9] at pn2;have lf:=few _ hG3;generalize es++(B.nb (us.map Tr.pos)).take (0+j)=es2 at hG3 pn2 hl2 lf;generalize hN:vf0 (B.S n) es2=N at pn2 hl2 lf;refine{_,rfl,?_};simp! [wl6,zg8];rewrite [vv4 true hl2];simp!;by_cases hm:r.ts.map Tr.pos∈B.S n++N
       ·rw[if_neg (by rw[Ap1 hm];decide)]
        rw[if_pos hm,Bh0] at pn2;exact pn2 _ _ {_,_,vs2,by rw[zg8],rfl,hl2,hi2}
       ·rw[if_pos (by rw[Ao1 hm];rfl)]
        rw[if_neg hm] at pn2;simp_all!;simp! [wb3];have rim:r.push.imm=true:=zs7;have tim:(D.tup [r.push,plD (us.map Tr.pos)]).imm=true:=by rw[imm_tup];simp only[D.immL,rim,xd3,Ca0]
        rewrite [vg5 rim (xd3 _)];simp!;refine{_,wn4 hl2 hm tim (lt_size 'o'),?_};simp! [vd8,zo9];have lN':N.length<=81:=by rw[Ak0] at lf;omega
        refine{_,zu5 (xd3 _) (by rw[Aa0];omega),?_};simp!;refine pn2 _ _ {_,_,vs2++[D.tup [r.push,plD (us.map Tr.pos)]],by rw[zg8,Ay0];rfl,by rw[<-Ao0],?_,?_}
        ·rw[<-Ao0,Ak0,Ak0,hl2];rfl
        ·exact ze7 hi2 (show (D.imm _&&true)=true by rw[tim];rfl)
    ·obtain⟨x5,x6,vs2,er,est,hl2,hi2⟩:=hI
     subst er est;have e9:0+(rows.map Row.data).length=(B.nb (us.map Tr.pos)).length:=by rw[nbe,Aa0,Aa0,Ah0]
     rw[e9,Bd0] at hl2 ⊢;have lf:=few (es++B.nb (us.map Tr.pos)) λp hp=>by
      rcases Ar0.mp hp with z | z
      ·exact hG p z
      ·exact hG2 p z
     simp!;refine xm8 'o' ?_;exact pn _ _ {_,_,_,vs2,by rw[zh4 hsu.kind],rfl,hl2,hi2}
 ·obtain⟨x4,x5,x6,vs',er,es,hl,hi'⟩:=hI
  subst er es;rw[Ah0,Aa0,Bd0] at hl ⊢;simp!;have ok:=Gd.few ho hp (l:=vf0 (B.S n) ((B.L n).flatMap B.nb)) (Ci0.mp (ye1 (Bf.nd n))).2.1 λp hp=>by
   obtain⟨p',hp',z⟩:=Cd0.mp (zw5.mp hp).1;exact gX p' p (hgL n p' hp') z
  have so:yj0 [D.lst ((vf0 (B.S n) ((B.L n).flatMap B.nb)).map plD)]=some (.lst ((B.L (n+1)).map plD)):=by
   unfold yj0;show (vf9 ((vf0 (B.S n) ((B.L n).flatMap B.nb)).map plD)).bind _=_;rw[zv4,Bu0,if_pos ok.2];show _=some (D.lst ((B.srt (vf0 (B.S n) ((B.L n).flatMap B.nb))).map plD));rw[hsrt]
  rewrite [so];simp! [zo9];exact hq vs' hl hi'
end
instance yd0:List D->Res Unit D:=dfn 6 3 (yl8 lbF).1
noncomputable abbrev fls(l:List (List (List vc2))):List D:=l.map λm=>D.fl (m.map plD)
structure ua8(B:Bf (List vc2))(most N k:Nat):Prop where
 full:∀i,i<N->B.L i≠[]
 cut:(B.L N=[]/\k=N/\N<=most)\/(N=most+1/\k=most)
instance muL(Z:Rho):Nat:=match (Z[4]?:Option Sl) with
 | some (.own (.lst l))=>100-l.length
 | _=>0
def yv1(m:List (List vc2)):(D.fl (m.map plD)).imm=true:=by
 unfold D.imm;first | rfl | exact zo9 m
def yf4(l:List (List (List vc2))):D.immL (fls l)=true:=zb1 yv1 l
def xx5{A5 A4:Int}:(vc5 A5 A4 sh ts).imm=true:=by
 unfold vc5;simp only[imm_tup,D.immL,imm_int,zb1 zc4,zb1 zp5,Ca0]
def yz8(l:List (List (List vc2))):(D.fl (fls l)).imm=true:=by
 unfold D.imm;first | rfl | exact yf4 l
def vx9:vu1 [a,b]=some (.tup [a,b]):=if_pos (zj1 'd')
def wv4(p:List vc2):(plD p).dep<=2:=by
 show D.depL (p.map prD)+1<=2;have:=zp7 (n:=1) xh8 p;exact Nat.succ_le_succ this
def ym3(l:List (List vc2)):D.depL (l.map plD)<=2:=zp7 (n:=2) wv4 l
section
variable{A5 A4:Int}{sh:List vc2}{ts:List Tr}
def yq1{most:Nat}(ho:zd6 A5 A4 sh ts)(hp:vg4 A5 A4 ts<=81)(hq:∀N k vs,ua8 (bfs A5 A4 sh ts) most N k->N<=81->vs.length=((bfs A5 A4 sh ts).S k).length->D.immL vs=true->Q (.tup [.fl (fls ((bfs A5 A4 sh ts).F N)),SD ((bfs A5 A4 sh ts).S k) vs]) ()) :
 wpR (yd0 [vc5 A5 A4 sh ts,zb2 ts,.int most]) Q E:=by
 refine zg3 rfl 'z' ?_;unfold yl8;dsimp only;simp_all!;rewrite [zg8];simp! [yq4];have oL:vq9 [plD (ts.map Tr.pos)]=some (.lst [plD (ts.map Tr.pos)]):=zp1 (zo9 [ts.map Tr.pos]) 'd';have im1:D.immL ((ts.map Tr.pos).map prD)=true:=zb1 zc4 _;refine{_,zp6 _,?_};rewrite [yp2];simp_all!;simp! [vh3];simp_all!;simp! [oL,im1];obtain⟨B,hB⟩:∃B,B=bfs A5 A4 sh ts:={_,rfl};have hlb:∀{n:Nat} {vs:List D} {Q:D->D->Prop} {E:Exn->D->Prop},vs.length=(B.S n).length->D.immL vs=true->(∀vs',vs'.length=(B.S (n+1)).length->D.immL vs'=true->Q (.lst ((B.L (n+1)).map plD)) (SD (B.S (n+1)) vs'))->wpR (lbF [vc5 A5 A4 sh ts,.fl ((B.L n).map plD)] (SD (B.S n) vs)) Q E:=λa b c=>by
  rw[hB] at a c ⊢;exact uc4 ho hp a b c
 have h81:∀n,(B.S n).length<=81:=λn=>(Gd.few ho hp (Bf.nd n) (by rw[hB];exact gdS ho)).1
 have l0:B.L 0=[ts.map Tr.pos]:=by rw[hB];rfl
 have s0':B.S 0=[ts.map Tr.pos]:=by rw[hB];rfl
 have kle:∀k,(∀i,i<k->B.L i≠[])->k<=81:=λk h=>by
  cases k with
  | zero=>omega
  | succ k=>exact Ap0 (Bf.le λi hi=>h i 'o') (h81 k)
 rw[<-hB] at hq;clear hB;simp_all!;refine yc4 (λZ st=>∃k vs,Z=[Sl.bor (vc5 A5 A4 sh ts),.bor (plD (ts.map Tr.pos)),.bor (.int most),.own (SD (B.S k) vs),.own (.lst (fls (B.F k))),.own (.lst ((B.L k).map plD))]/\k<=most/\(∀i,i<k->B.L i≠[])/\vs.length=(B.S k).length/\D.immL vs=true) (λZ _=>muL Z) {0,[.non],by rw[l0,s0'];rfl,'o',λi hi=>by omega,by rw[s0'];rfl,rfl} λZ st hI P Zv0 pn pr pz=>?_
 obtain⟨k,vs,rfl,hk,hne,hl,hi⟩:=hI;have k81:=kle k hne;have en:=wo9 (neg:=true) (l:=(B.L k).map plD) (Ap0 (ym3 _) 'z');have lenF:(fls (B.F k)).length=k:=by unfold fls Bf.F;rw[Aa0,Aa0,Bo0]
 have ln:vo2 [D.lst (fls (B.F k))]=some (.int k):=by
  unfold vo2;simp only[lenF]
 have mapnil:∀l:List (List vc2),(l.map plD=[])=(l=[]):=λl=>propext List.map_eq_nil_iff
 simp! [vh3,en,ln,vg7,D.bool?,mapnil];have hf4:∀(x:Sl) (vs:List D) (F:List (List (List vc2))),fzS [Sl.bor (vc5 A5 A4 sh ts),Sl.bor (plD (ts.map Tr.pos)),Sl.bor (D.int most),Sl.own (SD (B.S k) vs),Sl.own (D.lst (fls F)),x] 4=some [Sl.bor (vc5 A5 A4 sh ts),Sl.bor (plD (ts.map Tr.pos)),Sl.bor (D.int most),Sl.own (SD (B.S k) vs),Sl.bor (D.fl (fls F)),x]:=λx vs F=>by
  show (oFz (D.lst (fls F))).map _=_;unfold oFz;simp only[yf4,if_true];rfl
 have hf:fzS [Sl.bor (vc5 A5 A4 sh ts),Sl.bor (plD (ts.map Tr.pos)),Sl.bor (D.int most),Sl.own (SD (B.S k) vs),Sl.own (D.lst (fls (B.F k))),Sl.own (D.lst ((B.L k).map plD))] 5=some [Sl.bor (vc5 A5 A4 sh ts),Sl.bor (plD (ts.map Tr.pos)),Sl.bor (D.int most),Sl.own (SD (B.S k) vs),Sl.own (D.lst (fls (B.F k))),Sl.bor (D.fl ((B.L k).map plD))]:=by
  show (oFz (D.lst ((B.L k).map plD))).map _=_;unfold oFz;simp only[zo9,if_true];rfl
 by_cases hz:B.L k=[]
 ·rw[if_neg (by rw[Ap1 hz];decide)]
  refine pz _ ?_;simp_all!;simp! [vh3,en,D.bool?,mapnil];rw[if_neg (by rw[Ap1 hz];decide)];with_reducible refine hN_ _ _ ?_
  refine xb5.mpr {_,hf4 _ _ _,?_};simp! [xb4,xn0];refine{_,if_pos (yz8 _),_,if_pos hi,?_};rewrite [vx9];simp!;exact hq k k vs {hne,.inl ⟨hz,rfl,hk⟩} k81 hl hi
 ·rw[if_pos (by rw[Ao1 hz];rfl)]
  by_cases hm:k<most
  ·rw[if_pos (Ap1 'o')]
   simp_all!;refine xb5.mpr {_,hf,?_};simp! [vd8,yf4];refine{_,zu5 (yv1 _) (by rw[lenF];omega),?_};simp! [wb2];refine{SD (B.S k) vs,by unfold vt8;exact if_pos hi,by rw[xx5,yv1];rfl,'z',hlb hl hi λvs' hl' hi'=>?_};rw[if_pos (show D.flat (D.lst ((B.L (k+1)).map plD))=true from zo9 _)];refine pn _ _ {k+1,vs',by rw[Bf.F_succ];unfold fls;rw[Ay0];rfl,'o',λi h=>?_,hl',hi'} ?_
   ·by_cases e:i=k
    ·subst e;exact hz
    ·exact hne i 'o'
   ·show 100-(fls (B.F k)++[D.fl ((B.L k).map plD)]).length<100-(fls (B.F k)).length
    rw[Ak0,lenF];show 100-(k+1)<100-k;omega
  ·rw[if_neg (by rw[Ao1 'o'];decide)]
   have e:k=most:=by omega
   subst e;refine pz _ ?_;simp_all!;simp! [vh3,en,D.bool?,mapnil];rw[if_pos (by rw[Ao1 hz];rfl)];refine xb5.mpr {_,hf,?_};simp! [vd8,yf4];refine{_,zu5 (yv1 _) (by rw[lenF];omega),?_};simp!;rewrite [show fls (B.F k)++[D.fl ((B.L k).map plD)]=fls (B.F (k+1)) by rw[Bf.F_succ];unfold fls;rw[Ay0];rfl];refine xb5.mpr {_,hf4 _ _ _,?_};simp! [xb4,xn0];refine{_,if_pos (yz8 _),_,if_pos hi,?_};rewrite [vx9];simp!;have hne':∀i,i<k+1->B.L i≠[]:=λi h=>by
    by_cases e:i=k
    ·subst e;exact hz
    ·exact hne i 'o'
   exact hq (k+1) k vs {hne',.inr ⟨rfl,rfl⟩} (kle _ hne') hl hi
instance yz2:List D->Res Unit D:=dfn 5 3 (yn6 yd0).1
def yq3{most:Nat}{Q:D->Unit->Prop}{E:Exn->Unit->Prop}(ho:zd6 A5 A4 sh ts)(hp:vg4 A5 A4 ts<=81)(hq:∀N k,ua8 (bfs A5 A4 sh ts) most N k->N<=81->Q (.fl (fls ((bfs A5 A4 sh ts).F N))) ()) :
 wpR (yz2 [vc5 A5 A4 sh ts,zb2 ts,.int most]) Q E:=by
 refine zg3 rfl 'z' ?_;unfold yn6;dsimp only;simp_all!;simp!;refine yq1 ho hp λN k vs he hN hl hi=>?_
 simp! [hi];exact{_,if_pos (yz8 _),hq N k he hN}
instance xa4:List D->Res Unit D:=dfn 4 2 (yg7 yd0).1
def wl9{Q:D->Unit->Prop}{E:Exn->Unit->Prop}(ho:zd6 A5 A4 sh ts)(hp:vg4 A5 A4 ts<=81)(hq:∀N,(bfs A5 A4 sh ts).L N=[]->(∀i,i<N->(bfs A5 A4 sh ts).L i≠[])->Q (.lst ((ve0 Ts.stO ((bfs A5 A4 sh ts).S N)).map plD)) ()) :
 wpR (xa4 [vc5 A5 A4 sh ts,zb2 ts]) Q E:=by
 refine zg3 rfl 'z' ?_;unfold yg7;dsimp only;simp_all!;simp!;refine yq1 (most:=2000) ho hp λN k vs he hN hl hi=>?_
 simp! [hi];have e:(bfs A5 A4 sh ts).L N=[]/\k=N:=by
  rcases he.cut with⟨a,b,_⟩ | ⟨a,_⟩
  ·exact⟨a,b⟩
  ·omega
 obtain⟨e1,rfl⟩:=e;have ok:=(Gd.few ho hp (Bf.nd k) (gdS ho)).2;have so:ym8 [SD ((bfs A5 A4 sh ts).S k) vs]=some (.lst ((ve0 Ts.stO ((bfs A5 A4 sh ts).S k)).map plD)):=by
  unfold ym8;show (vf9 (((bfs A5 A4 sh ts).S k).map plD)).bind _=_;rw[zv4,Bu0,if_pos ok]
 rewrite [so];simp! [zo9];exact{.inr (zo9 _),hq k e1 he.full}
end
instance vv2:List D->Dr->Res Dr D:=vp8 7 1 (zv0 vg3 zx6).1
def xj9(h:l.length<=63):xd9 [.lst (l.map vc0)]=some (.lst ((vg2 l).map vc0)):=by
 show (vg0 (l.map prD)).bind (λps=>if ps.length<128 then some (D.lst ((vg2 ps).map prD)) else none)=_;rw[yd5,Bu0,if_pos 'o'];rfl
instance gap(f y:Int):Int:=8*((y / 2+f) % 2)
instance vp4(f y:Int):List vc2:=((List.range 9).filter λx:Nat=>decide ((x:Int)≠gap f y)).map λx:Nat=>((x:Int),y)
instance ve6(f:Int)(k:Nat):List vc2:=(([1,3,5,7]:List Int).take k).flatMap (vp4 f)
def xu4:(vg2 (ve6 0 4)).Sublist (cov 9 9 (0,0)):=by decide +kernel
def xu3:(vg2 (ve6 1 4)).Sublist (cov 9 9 (0,0)):=by decide +kernel
def xf1(f:Int)(k:Nat):(ve6 f k).length<=36:=by
 have hY:∀y,(vp4 f y).length<=9:=λy=>by
  unfold vp4;rw[Aa0];exact Ap0 (Ce0 _ _) (by rw[Bo0];omega)
 have hl:∀l:List Int,(l.flatMap (vp4 f)).length<=9*l.length:=λl=>by
  induction l with
  | nil=>simp
  | cons a l ih=>rw[List.flatMap_cons,Ak0,Ax0];have:=hY a;omega
 have h4:(([1,3,5,7]:List Int).take k).length<=4:=by rw[Be0];exact Nat.min_le_right _ _
 exact Ap0 (hl _) 'o'
def wl0{st:Dr}{Q:D->Dr->Prop}{E:Exn->Dr->Prop}(hs:st.2<2 ^ 38)(hq:∀sh t st',zd6 9 9 sh [t]->vg4 9 9 [t]<=81->st'.2<=st.2+4->Q (.tup [vc5 9 9 sh [t],zb2 [t]]) st'):wpR (vv2 [] st) Q E:=by
 refine yc7 rfl 'z' ?_;unfold zv0;dsimp only;simp_all!;simp! [vh3];simp_all!;simp!;refine zc9 'z' 'z' 'o' λf st1 a1 b1 c1=>?_
 simp!;refine zu4 (λZ st2=>∃(x3 x4:Sl) (k:Nat),(k=0\/k=4)/\Z=[Sl.hnd,.own (.lst ((ve6 f k).map vc0)),.bor (.int f),x3,x4,.no,.no]/\st2.2<=st.2+2) (λP hP=>?_) λZ st2 hI=>?_
 ·simp!
  refine zc9 'z' 'z' 'o' λv st2 a2 b2 c2=>?_
  simp! [vg7];split
  ·rewrite [vn0 imm_int imm_int imm_int imm_int]
   simp!;refine zf1 (λi Z st'=>∃(x3 x4:Sl),Z=[Sl.hnd,.own (.lst ((ve6 f i).map vc0)),.bor (.int f),x3,x4,.no,.no]/\st'=st2) 0 {_,_,rfl,rfl} (λi e Z st' he hI P2 pn=>?_) λZ st' hI=>?_
   ·obtain⟨x3,x4,er,es⟩:=hI
    obtain⟨y,ey,hy,hi,h0,h8⟩:∃y:Int,e=.int y/\([1,3,5,7]:List Int)[i]?=some y/\i<4/\0<y/\y<8:=by
     rcases i with _ | _ | _ | _ | i
     ·cases he;exact{1,rfl,rfl,'z','z','z'}
     ·cases he;exact{3,rfl,rfl,'z','z','z'}
     ·cases he;exact{5,rfl,rfl,'z','z','z'}
     ·cases he;exact{7,rfl,rfl,'z','z','z'}
     ·simp at he
    subst er es ey;refine{_,rfl,?_};simp_all!;have cd:vx3 y 2:=by unfold vx3;omega
    have cm:vo0 8 ((y / 2+f) % 2):=.inr {'o','o'};simp! [iOp,ve7,vg7,if_pos cd,show (0:Int)<2 by decide,zw3 cm];simp! [vd8,zb1 zc4];rw[zh2 'o' 'o'];refine zs6 (λn acc Z st''=>∃x,acc=((((List.range n).filter λx:Nat=>decide ((x:Int)≠gap f y)).map λx:Nat=>((x:Int),y))).map vc0/\Z=[x,.bor (.int y),.bor (.int (gap f y))]/\st''=st') 0 {_,rfl,rfl,rfl} (λj d acc Z st'' hd hI=>?_) λacc Z st'' hI=>?_
    ·obtain⟨x,e1,e2,e3⟩:=hI
     obtain⟨rfl,hj⟩:=zf8 hd;subst e1 e2 e3;rw[Ah0] at *;refine{_,rfl,?_};simp! [oEq,D.dep,D.eqq,An0,At0];have fl:(((List.range j).filter λx:Nat=>decide ((x:Int)≠gap f y))).length<=9:=Ap0 (Ce0 _ _) (by rw[Bo0];omega);by_cases hg:(j:Int)=gap f y
     ·rw[if_neg (by simp[hg])]
      exact{_,by rw[Cs0,List.filter_append];simp[hg],rfl}
     ·rw[if_pos (by simpa using hg),vg5 imm_int imm_int]
      simp!;refine{lt_size (by rw[Aa0,Aa0];omega),_,?_,rfl};rw[Cs0,List.filter_append];simp[hg,vc0]
    ·obtain⟨x,e1,e2,e3⟩:=hI
     subst e1 e2 e3;have ll:(ve6 f i).length<=36:=xf1 f i;rw[Ah0,zd8];have fl:(((List.range 9).filter λx:Nat=>decide ((x:Int)≠gap f y))).length<=9:=Ap0 (Ce0 _ _) (by rw[Bo0];omega);refine{_,yd9 (zb1 zc4 _) (by rw[Aa0,Aa0,Aa0];show _+(((List.range 9).filter λx:Nat=>decide ((x:Int)≠gap f y))).length<=1000;omega),?_};have el:ve6 f (0+i+1)=ve6 f i++vp4 f y:=by
      unfold ve6;rw[Ah0,Av0,hy,Cl0];simp
     refine pn _ _ {.bor (.int y),.bor (.int (gap f y)),?_,rfl};rw[el,Ay0];rfl
   ·obtain⟨x3,x4,er,es⟩:=hI
    subst er es;exact hP _ _ {_,_,4,.inr rfl,rfl,'o'}
  ·exact hP _ _ {_,_,0,.inl rfl,rfl,'o'}
 ·obtain⟨x3,x4,k,hk,er,t2⟩:=hI
  subst er;simp_all!;simp! [vn0,vg5];refine zx8 (w:=9) (h:=9) (ways:="none") (s:=0) (p:=(0,0)) 'z' 'z' 'z' 'z' ?_;simp! [zb1 zc4];refine zs6 (λn acc Z st''=>∃x,acc=(((cov 9 9 (0,0)).take n).filter λc=>!decide (c∈ve6 f k)).map vc0/\Z=[x,.bor (.lst ((ve6 f k).map vc0))]/\st''=st2) 0 {_,rfl,rfl,rfl} (λj d acc Z st'' hd hI=>?_) λacc Z st'' hI=>?_
  ·obtain⟨x,e1,e2,e3⟩:=hI
   rw[Af0] at hd;cases q:(cov 9 9 (0,0))[j]? with
   | none=>rw[q] at hd;cases hd
   | some c=>
     rw[q] at hd;cases hd;subst e1 e2 e3;have tk:(cov 9 9 (0,0)).take (j+1)=(cov 9 9 (0,0)).take j++[c]:=by rw[Av0,q];rfl
     have fl:(((cov 9 9 (0,0)).take j).filter λc=>!decide (c∈ve6 f k)).length<=81:=Ap0 (Ce0 _ _) (by rw[Be0];exact Ap0 (Nat.min_le_right _ _) (yg6 (w:=9) (h:=9) 'z' 'z'));rw[Ah0] at *;refine{_,rfl,?_};simp! [xs4.2];by_cases hc:c∈ve6 f k
     ·rw[if_neg (by rw[Ap1 hc];decide)]
      exact{_,by rw[tk,List.filter_append];simp[hc],rfl}
     ·rw[if_pos (by rw[Ao1 hc];rfl)]
      refine{zc4 c,lt_size (by rw[Aa0];omega),_,?_,rfl};rw[tk,List.filter_append];simp[hc]
  ·obtain⟨x,e1,e2,e3⟩:=hI
   subst e1 e2 e3;rw[Ah0,Aa0,Bd0];simp! [zb1 zc4];have cl81:((cov 9 9 (0,0)).filter λc=>!decide (c∈ve6 f k)).length<=81:=Ap0 (Ce0 _ _) (yg6 (w:=9) (h:=9) 'z' 'z');have f01:f=0\/f=1:=by omega
   have cpos:0<((cov 9 9 (0,0)).filter λc=>!decide (c∈ve6 f k)).length:=by
    refine List.length_pos_of_mem (a:=(4,0)) ?_;rcases hk with rfl | rfl<;>rcases f01 with rfl | rfl<;>decide +kernel
   have shs:(vg2 (ve6 f k)).Sublist (cov 9 9 (0,0)):=by
    rcases hk with rfl | rfl
    ·exact List.nil_sublist _
    ·rcases f01 with rfl | rfl
     ·exact xu4
     ·exact xu3
   have cmem:∀c∈(cov 9 9 (0,0)).filter λc=>!decide (c∈ve6 f k),c∈cov 9 9 (0,0)/\c∉vg2 (ve6 f k):=λc hc=>by
    have:=List.mem_filter.mp hc;exact{this.1,λz=>by simpa [(zx9 _).mem_iff.mp z] using this.2}
   generalize ((cov 9 9 (0,0)).filter λc=>!decide (c∈ve6 f k))=cells at cl81 cpos cmem;have lc:vo2 [.lst (cells.map vc0)]=some (.int cells.length):=by unfold vo2;simp
   simp_all!;simp! [lc];refine zc9 'o' 'o' 'o' λv st3 a3 b3 c3=>?_
   obtain⟨d,hd,ed⟩:=yu2 (l:=cells.map vc0) (zb1 zc4 _) a3 (by rw[Aa0];exact b3);obtain⟨p,hp,rfl⟩:=Bb0.mp hd;rw[ed];have pf:(vc0 p).flat=false:=rfl;obtain⟨hp1,hp2⟩:=cmem p hp;simp! [pf];have sl:xd9 [.lst ((ve6 f k).map vc0)]=some (.lst ((vg2 (ve6 f k)).map vc0)):=xj9 (Ap0 (xf1 f k) 'z');rewrite [sl];simp! [yi9,zb1 zc4];refine zc9 'z' 'z' 'o' λv2 st4 a4 b4 c4=>?_
   have sub:=shs;generalize vg2 (ve6 f k)=sh at sub hp2;have ot:vn1 [D.int 1,D.int 1,D.str "any",D.int v2]=some (kd 1 1 "any" v2):=vn0 imm_int imm_int imm_str imm_int;have ot1:vn1 [kd 1 1 "any" v2]=some (D.tup [kd 1 1 "any" v2]):=zy4 (by simp only[D.immL,xv5];rfl) 'd';have okT:vw5 9 9 sh ⟨1,1,"any",v2,p.1,p.2⟩:=by
    have m:=zu6.mp hp1;refine{by show (1:Int)<=1;omega,by show (1:Int)<=1;omega,by show 0<=p.1;omega,by show p.1+1<=9;omega,by show 0<=p.2;omega,by show p.2+1<=9;omega,.inl rfl,by show v2=0\/v2=1\/v2=-1;omega,λc hc=>?_};have m2:=zu6.mp (show c∈cov 1 1 (p.1,p.2) from hc);have:c=p:=Prod.ext 'o' 'o';rw[this];exact hp2
   have ok:zd6 9 9 sh [⟨1,1,"any",v2,p.1,p.2⟩]:={'z','z','z','z',sub,'d',λt ht=>by rw[Al0.mp ht];exact okT,Cu0 _ _};have im:D.immL [D.int 9,D.int 9,D.tup (List.map vc0 sh),D.tup [kd 1 1 "any" v2]]=true:=by
    simp only[D.immL,imm_tup,imm_int,xv5,zb1 zc4,Ca0]
   have ot2:vn1 [D.int 9,D.int 9,D.tup (List.map vc0 sh),D.tup [kd 1 1 "any" v2]]=some (vc5 9 9 sh [⟨1,1,"any",v2,p.1,p.2⟩]):=zy4 im 'd';have ot3:vn1 [vc0 p]=some (zb2 [⟨1,1,"any",v2,p.1,p.2⟩]):=zy4 (by simp only[D.immL,zc4];rfl) 'd';have hi:(vc5 9 9 sh [⟨1,1,"any",v2,p.1,p.2⟩]).imm=true:=by
    unfold vc5;simp only[D.immL,imm_tup,imm_int,zb1 zp5,zb1 zc4,Ca0]
   have si:(zb2 [⟨1,1,"any",v2,p.1,p.2⟩]).imm=true:=by
    show D.immL _=true;exact zb1 zk2 _
   rewrite [ot];simp!;rewrite [ot1];simp!;rewrite [ot2];simp!;rewrite [ot3];simp!;rewrite [vg5 hi si];simp!;exact{.inl (by simp only[imm_tup,D.immL,hi,si,Ca0]),hq _ _ _ ok (by show zk1 9 9 1 1 "any" * 1<=81;decide) 'o'}
section
variable{W:List (List vc2)}{p:List vc2}{f:List vc2->D}{v:D}
noncomputable abbrev FD(f:List vc2->D)(W:List (List vc2)):D:=SD W (W.map f)
theorem yz1:∀{W:List (List vc2)},p∈W->vc1 (kyS p) (W.map plD) (W.map f)=some (f p)
 | [],h=>by cases h
 | q::W,h=>by
   show vc1 (kyS p) (plD q::W.map plD) (f q::W.map f)=_;unfold vc1;rw[zp6];by_cases e:q=p
   ·subst e;rw[if_pos rfl]
   ·rw[if_neg (by simpa using λz=>e (yz3 z)),yz1 ((Aj0.mp h).resolve_left λz=>e z.symm)]
def wz1(h:p∈W)(hi:(f p).imm=true):vn3 (FD f W) (plD p)=some (f p):=by
 unfold vn3;show (zc0 (plD p)).bind _=_;rw[zp6,Bu0,yz1 h];unfold im;rw[Bu0,if_pos hi]
def xp8(h:p∉W):ve4 (kyS p) (f p) (W.map plD) (W.map f)=((W++[p]).map plD,(W++[p]).map f):=by
 rw[wi0 'd' h,Ay0 (f:=f)];rfl
theorem xc9:∀W:List (List vc2),List.zipWith (λd u=>if zc0 d=some (kyS p) then v else u) (W.map plD) (W.map λ_=>v)=W.map λ_=>v
 | []=>rfl
 | q::W=>by
   show (if zc0 (plD q)=some (kyS p) then v else v)::List.zipWith _ (W.map plD) (W.map λ_=>v)=v::W.map λ_=>v
   rw[xc9 W,ite_self]
def wn2(h:p∈W):ve4 (kyS p) v (W.map plD) (W.map λ_=>v)=(W.map plD,W.map λ_=>v):=by
 unfold ve4;rw[yz1 (f:=λ_=>v) h,if_pos (by rfl),xc9]
end
section
variable{B:Bf (List vc2)}{N:Nat}
open Classical in
instance lv(B:Bf (List vc2))(p:List vc2):Int:=if h:∃i:Nat,p∈B.L i then (h.choose:Int) else 0
def vp3{i:Nat}{p:List vc2}(h:p∈B.L i):lv B p=i:=by
 unfold lv;have e:∃i:Nat,p∈B.L i:=⟨i,h⟩;rw[dif_pos e,Bf.one e.choose_spec h]
instance lvD(B:Bf (List vc2))(p:List vc2):D:=.int (lv B p)
def ub6{p:List vc2}(h:B.L N=[]):p∈(B.F N).flatten↔∃i,p∈B.L i:=by
 rw[List.mem_flatten];unfold Bf.F;constructor
 ·rintro ⟨l,hl,hx⟩
  obtain⟨i,_,rfl⟩:=Bb0.mp hl;exact⟨i,hx⟩
 ·rintro ⟨i,hx⟩
  have:i<N:=by
   apply Classical.byContradiction;intro q;rw[Bf.nils 'o' h] at hx;cases hx
  exact{_,Bb0.mpr {i,Bw0.mpr this,rfl},hx}
def ue7(h:B.L N=[]):(B.F N).flatten.Perm (B.S N):=by
 have:=Bf.all (B:=B) N;rw[Bf.F_succ,h,List.flatten_append] at this;simpa using this
theorem ndW(n:Nat):(B.F n).flatten.Nodup:=by
 cases n with
 | zero=>show ([]:List (List vc2)).Nodup;exact List.nodup_nil
 | succ n=>exact Bf.flat_nd n
def wx1{i j:Nat}{p:List vc2}(h:(B.L i)[j]?=some p):p∉(B.F i).flatten++(B.L i).take j:=by
 have nd:((B.F i).flatten++B.L i).Nodup:=by
  have:=Bf.flat_nd (B:=B) i;rw[Bf.F_succ,List.flatten_append] at this;simpa using this
 have e:B.L i=(B.L i).take j++p::(B.L i).drop (j+1):=by
  have hj:=(Ac0.mp h);obtain⟨hj,e⟩:=hj;rw[<-e,List.getElem_cons_drop,List.take_append_drop]
 rw[e,<-Ao0] at nd;intro z;exact(Ci0.mp nd).2.2 p z p Bi0 rfl
structure Led(B:Bf (List vc2))(W K done:List (List vc2)):Prop where
 nd:K.Nodup
 sub:∀x∈K,x∈W
 st:B.s∈K
 led:∀p∈done,∀q∈B.nb p,lv B q=lv B p+1->q∈K
theorem Led.all{K:List (List vc2)}(h:B.L N=[])(l:Led B (B.F N).flatten K (B.F N).flatten):K.length=(B.F N).flatten.length:=by
 refine Nat.le_antisymm (zw4 l.nd l.sub) (zw4 (ndW N) λx hx=>?_);obtain⟨i,hi⟩:=(ub6 h).mp hx;cases i with
 | zero=>rw[Al0.mp hi];exact l.st
 | succ i=>
   obtain⟨⟨p,hp,hq⟩,_⟩:=Bf.new.mp hi;exact l.led p ((ub6 h).mpr ⟨i,hp⟩) x hq (by rw[vp3 hi,vp3 hp];omega)
end
section
variable{W:List (List vc2)}{p:List vc2}{f:List vc2->D}{Z:Rho}{i:Nat}
def wk0(h:Z[i]?=some (.own (FD f W)))(hi:∀p,(f p).imm=true):vi0 Z i=some (W.map plD,W.map f):=by
 unfold vi0;rw[h];exact if_pos (zb1 hi W)
def xt7{B:Bf (List vc2)}(p:List vc2):(lvD B p).imm=true:=imm_int
def ue6(h:p.length<=1000):(plD p).lw=true:=wi9 (xt6 (f:=prD) (λc=>ws1 c) p) (by rw[Aa0];exact h)
def yl7{l:List (List vc2)}(h:∀p∈l,p.length<=1000)(hl:l.length<=1000):(D.lst (l.map plD)).lw=true/\(D.lst (l.map plD)).dep<=3/\(D.fl (l.map plD)).lw=true/\(D.fl (l.map plD)).dep<=3/\D.eqq (.fl (l.map plD)) (.lst (l.map plD))=some true:=by
 have a:D.lwL (l.map plD)=true:=yn4.mpr λd hd=>by
  obtain⟨p,hp,rfl⟩:=Bb0.mp hd;exact ue6 (h p hp)
 have b:decide ((l.map plD).length<=sizeLine)=true:=Ap1 (zj1 (by rw[Aa0];exact hl));refine{by simp only[D.lw,a,b,Ca0],Nat.succ_le_succ (ym3 l),by simp only[D.lw,a,b,Ca0],Nat.succ_le_succ (ym3 l),?_};simp only[D.eqq,if_true];exact zx5 a
def wm8{l:List (List vc2)}:(ve0 Ts.stO l).length=l.length:=(zi6 (O:=Ts.stO) l).length_eq
def wm7:p∈(show List (List vc2) from ve0 Ts.stO l)↔p∈l:=(zi6 (O:=Ts.stO) l).mem_iff
def wj3{B:Bf (List vc2)}(h:p∈W):vn3 (FD (lvD B) W) (plD p)=some (.int (lv B p)):=wz1 h (xt7 p)
def wn3{K:List (List vc2)}:∃K',(K'=K\/K'=K++[p])/\(p∈K->K'=K)/\p∈K'/\D.dct (.non::(ve4 (kyS p) (.bl true) (K.map plD) (K.map λ_=>.bl true)).1) (ve4 (kyS p) (.bl true) (K.map plD) (K.map λ_=>.bl true)).2=FD (λ_=>.bl true) K':=by
 by_cases h:p∈K
 ·refine{K,.inl rfl,λ_=>rfl,h,?_}
  rw[wn2 h]
 ·refine{K++[p],.inr rfl,λz=>absurd z h,'d',?_}
  rw[xp8 (f:=λ_=>.bl true) h]
end
open H in
def wt5(ns:List Int)(hn:ns.length<=63):wpR ((vv1 vg3 vv5 vv2 yz2 xa4 ui3 xd2 (vj1 5)).1 (rhoL vk6.length) (zp8 ns,0)) (λfl _=>fl=.rt (.bl true)) λ_ _=>False:=by
 unfold vv1;dsimp only;have rh:rhoL vk6.length=[Sl.no,.hnd,.no,.no,.no,.no,.no,.no,.no,.no,.no,.no,.no,.no]:=rfl;rw[rh,zb6];obtain⟨st0,hst0,h00⟩:∃st0:Dr,(zp8 ns,(0:Int))=st0/\st0.2=0:={_,rfl,rfl};rw[hst0];simp!;refine zc9 'z' 'z' 'o' λv1 st1 a1 b1 c1=>?_
 simp! [oEq,D.dep,D.eqq,An0,At0];simp_all!;simp! [vz2,vu3,yz6];generalize (v1 == 0)=B5;have tk2:∃m:Int,(if B5=true then D.int 20 else D.int 60)=.int m/\1<=m/\m<=60:=by
  split
  ·exact{_,rfl,'z','z'}
  ·exact{_,rfl,'z','z'}
 obtain⟨m,em,m0,m1⟩:=tk2;rw[em];refine wl3 'o' m0 'o' λA5 A4 sh ts st2 ho hp t2=>?_
 have hf:(vc5 A5 A4 sh ts).flat=false:=rfl;have sf:(zb2 ts).flat=false:=rfl;simp! [hf,sf];refine zu4 (λZ st'=>∃(A5 A4:Int) (sh:List vc2) (ts:List Tr),Z=[Sl.no,.hnd,.bor (.bl B5),.bor (vc5 A5 A4 sh ts),.bor (zb2 ts),.no,.no,.no,.no,.no,.no,.no,.no,.no]/\zd6 A5 A4 sh ts/\vg4 A5 A4 ts<=81/\st'.2<=600) (λP pn=>?_) λZ st' hI=>?_
 ·simp!
  refine zc9 'z' 'z' 'o' λv3 st3 a3 b3 c3=>?_
  simp! [oEq,D.dep,D.eqq,An0,At0];split
  ·refine wl0 'o' λsh t st4 ho hp t4=>?_
   have hf:(vc5 9 9 sh [t]).flat=false:=rfl;have sf:(zb2 [t]).flat=false:=rfl;simp! [hf,sf];exact pn _ _ {_,_,_,_,rfl,ho,hp,'o'}
  ·exact pn _ _ {_,_,_,_,rfl,ho,'o','o'}
 ·clear hf sf ho hp t2
  clear A5 A4 sh ts;obtain⟨A5,A4,sh,ts,er,ho,hp,t2⟩:=hI;subst er;simp_all!;simp!;refine yq3 (most:=1000) ho hp λN k he hN=>?_
  simp!;have hfl:∀l,(D.fl (fls l)).flat=false:=λ_=>rfl
  have eN:(bfs A5 A4 sh ts).L N=[]:=by
   rcases he.cut with⟨a,_⟩ | ⟨a,_⟩
   ·exact a
   ·omega
  have hNe:=he.full;have few:=λ(l:List (List vc2)) (nd:l.Nodup) h=>Gd.few ho hp nd h
  have hgL:∀n,∀p∈(bfs A5 A4 sh ts).L n,Gd A5 A4 sh ts p:=λn=>gdL ho
  have hW:∀p∈((bfs A5 A4 sh ts).F N).flatten,Gd A5 A4 sh ts p:=λp hp=>by
   obtain⟨i,hi⟩:=(ub6 eN).mp hp;exact hgL i p hi
  have fewW:=few _ (ndW N) hW;have wl:=λmost=>@yq3 A5 A4 sh ts most
  have wc:=@wl9 A5 A4 sh ts;have B0:(bfs A5 A4 sh ts).s=ts.map Tr.pos:=rfl;have nbq:∀us,vl4 ts us->(bfs A5 A4 sh ts).nb (us.map Tr.pos)=(ve2 A5 A4 sh us us.length).map λr=>r.ts.map Tr.pos:=λus h=>vv0 h
  generalize bfs A5 A4 sh ts=B at he eN hNe hgL hW fewW wl wc B0 nbq;rw[hfl];simp_all!;simp!;have lenF:∀n,(fls (B.F n)).length=n:=λn=>by unfold fls Bf.F;rw[Aa0,Aa0,Bo0]
  have getF:∀{n j:Nat} {d:D},(fls (B.F n))[j]?=some d->j<n/\d=.fl ((B.L j).map plD):=λ{n j d} h=>by
   have hj:=(Ac0.mp h).1;rw[lenF] at hj;unfold fls Bf.F at h;rw[Af0,Af0,List.getElem?_range hj] at h;exact{hj,(Option.some.inj h).symm}
  simp_all!;simp!;rw[show yj1 0 [D.fl (fls (B.F N))]=some (vo3 0 (fls (B.F N))) from rfl];refine zf1 (λi Z st=>∃(x7 x8 x9:Sl),Z=[Sl.no,.hnd,.bor (.bl B5),.bor (vc5 A5 A4 sh ts),.bor (zb2 ts),.bor (.fl (fls (B.F N))),.own (FD (lvD B) (B.F i).flatten),x7,x8,x9,.no,.no,.no,.no]/\st.2<=600) 0 {_,_,_,rfl,t2} (λi e Z st he hI P pn=>?_) λZ st hI=>?_
  ·obtain⟨x7,x8,x9,er,t3⟩:=hI
   obtain⟨x,hx,rfl⟩:=yb7 he;obtain⟨hi,rfl⟩:=getF hx;subst er;rw[Ah0] at *;refine{_,rfl,?_};simp! [D.fl?];have lW:(B.F (i+1)).flatten.length<=81:=(few _ (ndW _) λp hp=>by
    obtain⟨l,hl,hx⟩:=List.mem_flatten.mp hp;obtain⟨j,_,rfl⟩:=Bb0.mp hl;exact hgL j p hx).1
   have eF:(B.F (i+1)).flatten=(B.F i).flatten++B.L i:=by rw[Bf.F_succ,List.flatten_append];simp
   rw[eF] at pn lW;refine zf1 (λj Z st'=>∃(x9:Sl),Z=[Sl.no,.hnd,.bor (.bl B5),.bor (vc5 A5 A4 sh ts),.bor (zb2 ts),.bor (.fl (fls (B.F N))),.own (FD (lvD B) ((B.F i).flatten++(B.L i).take j)),.bor (.int (i:Nat)),.bor (.fl ((B.L i).map plD)),x9,.no,.no,.no,.no]/\st'=st) 0 {_,by rw[List.take_zero,Bh0];rfl,rfl} (λj e Z st' hd hI P2 pn2=>?_) λZ st' hI=>?_
   ·obtain⟨x9,er,es⟩:=hI
    rw[Af0] at hd;cases q:(B.L i)[j]? with
    | none=>rw[q] at hd;cases hd
    | some p=>
      rw[q] at hd;cases hd;subst er es;rw[Ah0] at *;have nw:=wx1 q;have tk:(B.F i).flatten++(B.L i).take (j+1)=((B.F i).flatten++(B.L i).take j)++[p]:=by rw[Av0,q,Ao0];rfl
      have hl:((B.F i).flatten++(B.L i).take j).length<=81:=by
       rw[Ak0] at lW ⊢;rw[Be0];have:=Nat.min_le_right j (B.L i).length;omega
      rw[tk] at pn2;generalize (B.F i).flatten++(B.L i).take j=W at nw pn2 hl;refine{_,rfl,?_};simp_all!;simp!;rewrite [vv4 false (by rw[Aa0])];rewrite [Ao1 nw];simp!;have hv:D.int (i:Nat)=lvD B p:=by unfold lvD;rw[vp3 (Am0 q)]
      refine{_,_,wk0 rfl xt7,kyS p,zp6 p,by rw[Aa0];exact lt_size 'o',pn2 _ _ {.bor (plD p),?_,rfl}};rw[hv,xp8 nw]
   ·obtain⟨x9,er,es⟩:=hI
    subst er es;rw[Ah0,Aa0,Bd0];exact pn _ _ {_,_,_,rfl,t3}
  ·obtain⟨x7,x8,x9,er,t3⟩:=hI
   subst er;rw[Ah0,zp2,lenF];have hN1:0<N:=by
    rcases Nat.eq_zero_or_pos N with z | z
    ·subst z;cases eN
    ·exact z
   have fp:(B.F N).flatten.Perm (B.S N):=ue7 eN;simp_all!;simp!;have lenP:∀p,Gd A5 A4 sh ts p->p.length<=1000:=λp hp=>by
    obtain⟨us,rfl,_,hs⟩:=hp;have:=hs.len;have:=ho.few;rw[Aa0];omega
   have l0:B.L 0=[ts.map Tr.pos]:=by rw[<-B0];rfl
   have e0:uf4 (D.fl (fls (B.F N))) (.int 0)=some (.fl [plD (ts.map Tr.pos)]):=by
    show im (atI (fls (B.F N)) 0)=_;obtain⟨d,e,e2⟩:=xa7 (l:=fls (B.F N)) (v:=0) (Int.le_refl 0) (by rw[lenF];omega);obtain⟨_,rfl⟩:=getF e2;rw[e,show (Int.toNat 0)=0 from rfl,l0];unfold im;rw[Bu0,if_pos (yv1 _)];rfl
   have oL:vq9 [zb2 ts]=some (.lst [plD (ts.map Tr.pos)]):=by rw[zg8];exact zp1 (zo9 [ts.map Tr.pos]) 'd'
   have q0:=yl7 (l:=[ts.map Tr.pos]) (λp hp=>by rw[Al0.mp hp];exact lenP _ {ts,rfl,ho,.refl}) 'd';have eq0:oEq true (D.fl [plD (ts.map Tr.pos)]) (.lst [plD (ts.map Tr.pos)])=some (.bl false):=by
    unfold oEq;rw[if_pos (show D.dep (.fl [plD (ts.map Tr.pos)])<=30 from Ap0 q0.2.2.2.1 'z'),show D.eqq (.fl [plD (ts.map Tr.pos)]) (.lst [plD (ts.map Tr.pos)])=some true from q0.2.2.2.2];rfl
   have so:yj0 [.lst ((B.F N).flatten.map plD)]=some (.lst ((ve0 Ts.stO (B.F N).flatten).map plD)):=by
    unfold yj0;show (vf9 ((B.F N).flatten.map plD)).bind _=_;rw[zv4,Bu0,if_pos fewW.2]
   have oK:xs2 [FD (lvD B) (B.F N).flatten]=some (.lst ((B.F N).flatten.map plD)):=rfl;simp! [e0,oL,eq0,oK,so,D.bool?];refine wc ho hp λN' e1 e2=>?_
   have:N'=N:=by
    rcases Nat.lt_trichotomy N' N with z | z | z
    ·exact absurd e1 (hNe N' z)
    ·exact z
    ·exact absurd eN (e2 N z)
   subst this;have srt:ve0 Ts.stO (B.S N')=ve0 Ts.stO (B.F N').flatten:=xg3 ((zi6 _).trans fp.symm) (ya5 _);rw[srt];have q1:=yl7 (l:=ve0 Ts.stO (B.F N').flatten) (λp hp=>lenP p (hW p (wm7.mp hp))) (Ap0 (Cr0 wm8) 'o');simp! [wd9 (neg:=true) q1.1 (Ap0 q1.2.1 'z')];simp_all!;rewrite [zg8];simp! [yq4];refine{_,zp6 _,?_};rewrite [yp2];rewrite [show (D.dct [.non,plD (ts.map Tr.pos)] [.bl true])=FD (λ_=>.bl true) [ts.map Tr.pos] from rfl];simp_all!;simp! [oK];rewrite [<-zg8];obtain⟨W,hWe⟩:∃W,W=(B.F N').flatten:={_,rfl};have mW:∀p,p∈W↔∃i,p∈B.L i:=λp=>by rw[hWe];exact ub6 eN
   have all:∀K,Led B W K W->K.length=W.length:=λK h=>by rw[hWe] at h ⊢;exact h.all eN
   have sW:B.s∈W:=(mW _).mpr {0,by rw[l0,B0];simp};clear so srt q1 fp;rw[<-hWe] at fewW hW oK ⊢;refine zf1 (λi Z st'=>∃(K:List (List vc2)) (x7 x8 x9 x11 x12:Sl),Z=[Sl.no,.hnd,.bor (.bl B5),.bor (vc5 A5 A4 sh ts),.bor (zb2 ts),.bor (.fl (fls (B.F N'))),.own (FD (lvD B) W),x7,x8,x9,.own (FD (λ_=>.bl true) K),x11,x12,.no]/\Led B W K (W.take i)/\st'=st) 0 {[ts.map Tr.pos],_,_,_,_,_,rfl,{'d',λx hx=>by rw[Al0.mp hx,<-B0];exact sW,by rw[B0];simp,λp hp=>by simp at hp},rfl} (λi e Z st' he hI P2 pn2=>?_) λZ st' hI=>?_
   ·obtain⟨K,x7,x8,x9,x11,x12,er,hK,es⟩:=hI
    rw[Af0] at he;cases q:W[i]? with
    | none=>rw[q] at he;cases he
    | some p=>
      rw[q] at he;cases he;subst er es;rw[Ah0] at *;have hpW:=Am0 q;obtain⟨us,rfl,hou,hsu⟩:=hW p hpW;have tk:W.take (i+1)=W.take i++[us.map Tr.pos]:=by rw[Av0,q];rfl
      rw[tk] at pn2;have nbe:=nbq us hsu;have inW:∀x∈B.nb (us.map Tr.pos),x∈W/\lv B x<=lv B (us.map Tr.pos)+1:=λx hx=>by
       obtain⟨i,hi⟩:=(mW _).mp hpW;obtain⟨j,hj,hx⟩:=Bf.next hi hx;exact{(mW _).mpr ⟨j,hx⟩,by rw[vp3 hx,vp3 hi];omega}
      refine{_,rfl,?_};simp!;rewrite [<-zg8,<-zh4 hsu.kind];refine wt7 hou λh4=>?_
      have rs:∀r∈ve2 A5 A4 sh us us.length,r.n<us.length/\Dir r.d/\1<=r.k/\vd6 A5 A4 sh r.d r.n us r.k r.ts:=λr hr=>yd3 hr
      generalize ve2 A5 A4 sh us us.length=rows at h4 nbe rs;simp! [zb1 (λr=>zs7) rows];refine zf1 (λj Z st''=>∃(K:List (List vc2)) (x11 x12:Sl),Z=[Sl.no,.hnd,.bor (.bl B5),.bor (vc5 A5 A4 sh us),.bor (zb2 ts),.bor (.fl (fls (B.F N'))),.own (FD (lvD B) W),x7,x8,.bor (zb2 us),.own (FD (λ_=>.bl true) K),x11,x12,.no]/\Led B W K (W.take i)/\(∀q∈(B.nb (us.map Tr.pos)).take j,lv B q=lv B (us.map Tr.pos)+1->q∈K)/\st''=st') 0 {K,_,_,rfl,hK,λq hq=>by simp at hq,rfl} (λj e Z st'' he hI P3 pn3=>?_) λZ st'' hI=>?_
      ·obtain⟨K,x11,x12,er,hK,hj,es⟩:=hI
       rw[Af0] at he;cases q2:rows[j]? with
       | none=>rw[q2] at he;cases he
       | some r=>
         rw[q2] at he;cases he;subst er es;rw[Ah0] at *;obtain⟨r1,r2,r3,r4⟩:=rs r (Am0 q2);obtain⟨t0,ht0⟩:∃t,us[r.n]?=some t:={_,Ad0 r1};have to:=hou.tr t0 (Am0 ht0);have k9:r.k<=9:=r4.le9 ht0 to.w1 to.h1 {to.x0,by have:=to.xw;have:=to.w1;have:=hou.w9;omega} {to.y0,by have:=to.yh;have:=to.h1;have:=hou.h9;omega} hou.w9 hou.h9 r2;have tk2:(B.nb (us.map Tr.pos)).take (j+1)=(B.nb (us.map Tr.pos)).take j++[r.ts.map Tr.pos]:=by rw[Av0,nbe,Af0,q2];rfl
         have hqm:r.ts.map Tr.pos∈B.nb (us.map Tr.pos):=by rw[nbe];exact Bb0.mpr {r,Am0 q2,rfl}
         obtain⟨qW,ql⟩:=inW _ hqm;rw[tk2] at pn3;refine{_,rfl,?_};simp_all!;simp! [show r.push=vj7 r.n r.d r.k from rfl];with_reducible refine wb4 hou ht0 r2 'o' r4 ?_
         have sf:(zb2 r.ts).flat=false:=rfl;simp! [sf];simp_all!;rewrite [zg8 (us:=r.ts),zg8 (us:=us)];have i1:=vv4 (W:=W) (vs:=W.map (lvD B)) (p:=r.ts.map Tr.pos) true (by rw[Aa0]);rw[Ap1 qW] at i1;have g1:=wj3 (B:=B) qW;have g2:=wj3 (B:=B) hpW;have lt:decide (lv B (us.map Tr.pos)+1<lv B (r.ts.map Tr.pos))=false:=Ao1 'o';simp! [i1,g1,g2,ve7,vg7,lt,D.bool?];rewrite [zr3];rewrite [<-zg8 (us:=us)];simp! [D.bool?];obtain⟨K',k1,k2,k3,k4⟩:=wn3 (K:=K) (p:=r.ts.map Tr.pos);by_cases hl:lv B (r.ts.map Tr.pos)=lv B (us.map Tr.pos)+1
         ·rw[if_pos (by rw[hl];exact Aq1 _)]
          have hKl:K.length<=81:=(few K hK.nd λp hp=>hW p (hK.sub p hp)).1;refine{_,_,wk0 rfl λ_=>imm_bl,_,zp6 _,by rw[Aa0];exact lt_size 'o',?_};rewrite [k4];have sub:∀x∈K,x∈K':=λx hx=>by rcases k1 with e | e<;>rw[e]<;>simp[hx]
          refine pn3 _ _ {K',_,_,rfl,{?_,λx hx=>?_,sub _ hK.st,λp hp q hq hl=>sub q (hK.led p hp q hq hl)},λq hq hl=>?_,rfl}
          ·by_cases e:r.ts.map Tr.pos∈K
           ·rw[k2 e];exact hK.nd
           ·rcases k1 with e' | e'
            ·rw[e'];exact hK.nd
            ·rw[e'];exact Ci0.mpr {hK.nd,'d',λa ha b hb e2=>e (by rw[Al0.mp hb] at e2;exact e2▸ha)}
          ·rcases k1 with e | e
           ·rw[e] at hx;exact hK.sub x hx
           ·rw[e] at hx
            rcases Ar0.mp hx with z | z
            ·exact hK.sub x z
            ·rw[Al0.mp z];exact qW
          ·rcases Ar0.mp hq with z | z
           ·exact sub q (hj q z hl)
           ·rw[Al0.mp z];exact k3
         ·rw[if_neg (by simpa using hl)]
          refine pn3 _ _ {K,_,_,rfl,hK,λq hq hl'=>?_,rfl};rcases Ar0.mp hq with z | z
          ·exact hj q z hl'
          ·rw[Al0.mp z] at hl';exact absurd hl' hl
      ·obtain⟨K,x11,x12,er,hK,hj,es⟩:=hI
       subst er es;have e9:0+(rows.map Row.push).length=(B.nb (us.map Tr.pos)).length:=by rw[nbe,Aa0,Aa0,Ah0]
       rw[e9,Bd0] at hj;refine pn2 _ _ {K,_,_,_,_,_,by rw[zh4 hsu.kind],{hK.nd,hK.sub,hK.st,λp hp q hq hl=>?_},rfl};rcases Ar0.mp hp with z | z
       ·exact hK.led p z q hq hl
       ·rw[Al0.mp z] at hq hl
        exact hj q hq hl
   ·obtain⟨K,x7,x8,x9,x11,x12,er,hK,es⟩:=hI
    subst er es;rw[Ah0,Aa0,Bd0] at hK;simp_all!;simp!;have kl:=all K hK;have oK1:∀(f:List vc2->D) (W:List (List vc2)),W.length<=81->vj9 [FD f W]=some (.int W.length):=λf W h=>by
     unfold vj9;show (if (W.map plD).length<=1000 then some (D.int (W.map plD).length) else none)=_;rw[Aa0,if_pos 'o']
    have oF:vu5 [D.fl (fls (B.F N'))]=some (.int N'):=by
     show some (D.int (fls (B.F N')).length)=_;rw[lenF]
    simp! [oK1 _ K (by rw[kl];exact fewW.1),oK1 _ W fewW.1,zr3,kl,Aq1,D.bool?];simp_all!;simp! [oF,ve7,vg7];refine zc9 'o' 'o' 'o' λv st6 a6 b6 c6=>?_
    simp!;obtain⟨most,rfl⟩:∃most:Nat,v=most:={v.toNat,'o'};refine wl most ho hp λN2 k2 he2 hN2=>?_
    have e3:((most:Int)+1)=((most+1:Nat):Int):=by omega
    have ec:uf5 none (some ((most:Int)+1)) (.fl (fls (B.F N')))=some (.lst (fls (B.F N2))):=by
     show (if D.immL (fls (B.F N'))=true then some (D.lst (vo5 (fls (B.F N')) none (some ((most:Int)+1)))) else none)=_;rw[if_pos (yf4 _),e3,xz2];have:fls (B.F N2)=(fls (B.F N')).take (most+1):=by
      have tkF:∀n m,(B.F n).take m=B.F (min m n):=λn m=>by unfold Bf.F;rw[<-List.map_take,List.take_range]
      unfold fls;rw[<-List.map_take,tkF];rcases he2.cut with⟨a,_,b⟩ | ⟨a,_⟩
      ·have:N2=N':=by
        rcases Nat.lt_trichotomy N2 N' with z | z | z
        ·exact absurd a (hNe N2 z)
        ·exact z
        ·exact absurd eN (he2.full N' z)
       rw[this,Nat.min_eq_right 'o']
      ·have:most+1<=N':=by
        apply Classical.byContradiction;intro z;exact he2.full N' 'o' eN
       rw[a,Nat.min_eq_left this]
     rw[this]
    simp! [ve7,vg7,ec];have lwF:D.lwL (fls (B.F N2))=true:=yn4.mpr λd hd=>by
     obtain⟨j,hj⟩:=Bt0 hd;obtain⟨_,rfl⟩:=getF hj;have nd:(B.L j).Nodup:=by
      have:=Bf.flat_nd (B:=B) j;rw[Bf.F_succ,List.flatten_append] at this;have:=(Ci0.mp this).2.1;simpa using this
     exact(yl7 (l:=B.L j) (λp hp=>lenP p (hgL j p hp)) (by have:=(few _ nd (hgL j)).1;omega)).2.2.1
    have dF:D.depL (fls (B.F N2))<=3:=zp7 (f:=λm:List (List vc2)=>D.fl (m.map plD)) (n:=3) (λl=>Nat.succ_le_succ (ym3 l)) (B.F N2);refine xm5 'o' lwF (zj1 (by rw[lenF];omega)) ?_;simp!
end K22
section
set_option maxHeartbeats 0
namespace K22
open L2
def uh7(s:Stmt):dA s=zu8 s:=by cases s<;>rfl
def uh6(s:Stmt):dB s=zb8 s:=by cases s<;>rfl
def uh5(s:Stmt):dS s=za3 s:=by cases s<;>rfl
def FnAt.to{K:PySem.W.Frag}{x:Str}{i:Nat}(h:FnAt K x i):At K x (top i):=by
 obtain⟨f,oc,od,an,osl,kV,doc,pm,cdv,ct,a,l,c,k⟩:=h;rw[uh7,uh6,uh5] at l;exact{f,_,a,wz3 (st:=top i) l c k}
theorem all_mk{l:PySem.W.OpenLaw}{w:World}{K:PySem.W.Frag}{h:Heap}{mg:Str->Option Value}{fa:Addr}(X:K.In h)(G:h.Ns mainGlobals mg)(hfa:mg "law" = some (.ref fa))(F:Facts K) :
 ∃fd:FuncData,(∀(s:Shared) (v:Value),BindsTo s fd {[v],[]} [("_law_script",v)])/\∀base:Heap,K.In base->base.Ns mainGlobals mg->vk3 l.prog w K mg base CX0 10 fa fd ["_law_script"] (spLaw K):=by
 cases F with
 | mk h_0 h_1 h_2 h_3 h_4 h_5 h_6 h_7 h_8 h_9 h_10 h_11 h_12 h_13 h_14 h_15 h_16 h_17 h_18 h_19 h_20 h_21 h_22 h_23 h_24 h_25 h_26 h_27 L8 K0 L3 K8 L9 L4 M0 L5 G6 M1 M4 M5 M6 J2 K9 K1 M7 M8 M9 J3 N0 L6 K2 L7 L0 K3 K4 K5 K6 K7 F9=>
 obtain⟨fl,dl,al,Fl⟩:=h_27.to;obtain⟨_,_,kV,dc,pm,an,cd,ct,_,rfl,_,_⟩:=Fl.ex;have e:=hfa.symm.trans (mg_of X G al);cases e;have mn:=λ{x:Str} (z:nsIn K mainGlobals x=some none)=>mg_none_of X G z
 have hm:Bn mg:={mn L8,mn K0,mn L3,mn K8,mn L9,mn L4,mn M0,mn L5,mn G6,mn M1,mn M4,mn M5,mn M6,mn J2,mn K9,mn K1,mn M7,mn M8,mn M9,mn J3,mn N0};have cs:Cst K mg:={trivial,{_,mg_of X G L6},{_,mg_of X G K2},{_,mg_of X G L7},{_,mg_of X G L0,wb9 (p0:=(1,0)) (p1:=(0,1)) (p2:=(-1,0)) (p3:=(0,-1)) K3 K4 K5 K6 K7},{_,mg_of X G F9}};refine{fnOf "law" "law" (zu8 vi3) (zb8 vi3) (za3 vi3) .none kV dc pm an cd ct,λs v=>.of_eq rfl,λbase _ _=>?_};have CB:zb9 l.prog w K mg base 1 "_law_begin" ["_law_script"] (yx2 K):=ui1 _ _ _ X G h_0.to λf fd F=>wd7 F hm
 have C_1:=λp q=>ui1 (sp:=spS (WdS p q) K vg3) l.prog w base X G h_1.to λf fd F=>wo5 F hm.len hm.divmod
 have C_2:=vk1 l.prog w base X G h_2.to xo7 (yl3.2 _ _ _ _ _ hm cs 0 );have C_3:=vk1 l.prog w base X G h_3.to zn7 (yg5.2 _ _ _ _ _ hm cs 0 );have C_4:=vk1 l.prog w base X G h_4.to zk9 ((yf2 vp0).2 _ _ _ _ _ hm cs 1 C_3.up);have C_5:=vk1 l.prog w base X G h_5.to wn0 (xx6.2 _ _ _ _ _ hm cs 0 );have C_6:=vk1 l.prog w base X G h_6.to zt6 (zp0.2 _ _ _ _ _ hm cs 0 );have C_7:=vk1 l.prog w base X G h_7.to zq7 ((yn3 xq8 vp0 zx4 ym1).2 _ _ _ _ _ hm cs 1 C_5.up C_3.up C_6.up C_2.up);have C_8:=vk1 l.prog w base X G h_8.to ze6 ((zm9 uf8).2 _ _ _ _ _ hm cs 2 C_7.up);have C_9:=vk1 l.prog w base X G h_9.to xo8 ((yn2 yw6 zx3).2 _ _ _ _ _ hm cs 3 C_8.up C_4.up);have C_10:=vk1 l.prog w base X G h_10.to zm6 ((zp9 zx4).2 _ _ _ _ _ hm cs 1 C_6.up);have C_11:=vk1 l.prog w base X G h_11.to zj8 ((yb3 zy6 yk7).2 _ _ _ _ _ hm cs 4 C_9.up C_10.up);have C_12:=vk1 l.prog w base X G h_12.to ze5 ((zm5 yw6 yk7 zy6).2 _ _ _ _ _ hm cs 4 C_8.up C_10.up C_9.up);have C_13:=vk1 l.prog w base X G h_13.to zd1 ((zh5 zx3 vv9).2 _ _ _ _ _ hm cs 5 C_4.up C_12.up);have C_14:=vk1 l.prog w base X G h_14.to ym0 ((zs4 vy9).2 _ _ _ _ _ hm cs 6 C_13.up);have C_15:=λa=>ua4 (W:=WdD K a) l.prog w base X G h_15.to zv5 (zi9.2 _ _ _ _ _ a hm cs 0 )
 have C_16:=λa=>uo0 (W:=WdD K a) l.prog w base X G h_16.to zf3 ((zn0 vy9 yx7).2 _ _ _ _ _ a hm cs 6 C_13.up (C_15 a).up)
 have C_17:=vk1 l.prog w base X G h_17.to zq6 ((yl8 lbF).2 _ _ _ _ _ hm cs 7 (λa=>(C_16 a).up));have C_18:=vk1 l.prog w base X G h_18.to yd1 ((yn6 yd0).2 _ _ _ _ _ hm cs 8 C_17.up);have C_19:=vk1 l.prog w base X G h_19.to zy0 ((yg7 yd0).2 _ _ _ _ _ hm cs 8 C_17.up);have C_20:=vk1 l.prog w base X G h_20.to zl1 (zn4.2 _ _ _ _ _ hm cs 0 );have C_21:=vk1 l.prog w base X G h_21.to zq8 (zn3.2 _ _ _ _ _ hm cs 0 );have C_22:=λp q=>ua4 l.prog w base X G h_22.to zv6 ((zs5 vg3).2 _ _ _ _ _ p q hm cs 1 (C_1 p q).up)
 have C_23:=λp q=>ua4 l.prog w base X G h_23.to zd3 ((zv1 vg3).2 _ _ _ _ _ p q hm cs 1 (C_1 p q).up)
 have C_24:=λp q=>ua4 l.prog w base X G h_24.to zc1 ((zv2 xo5 zx6 vg3 vv3 vt5).2 _ _ _ _ _ p q hm cs 2 (C_22 p q).up C_20.up (C_1 p q).up (C_23 p q).up C_21.up)
 have C_25:=λp q=>ua4 l.prog w base X G h_25.to zf5 ((zv0 vg3 zx6).2 _ _ _ _ _ p q hm cs 1 (C_1 p q).up C_20.up)
 have C_26:∀n:Nat,zb9 l.prog w K mg base n "_law_same" ["_law_found","_law_due"] (sp0 K (vj1 n)):=λn=>by
  induction n with
  | zero=>exact ui1 _ _ _ X G h_26.to λf fd F=>wz4
  | succ n ih=>exact vk1 _ _ _ X G h_26.to yr5 ((zj3 (vj1 n)).2 _ _ _ _ _ hm cs n ih)
 have C_26:=C_26 5;exact ww7 Fl (k:=9) CB.up (λp q cdv A outer s H E hr=>(vv1 vg3 vv5 vv2 yz2 xa4 ui3 xd2 (vj1 5)).2 _ _ _ _ _ p q hm cs 9 (C_1 p q).up (C_24 p q).up (C_25 p q).up C_18.up C_19.up C_14.up C_11.up C_26.up _ cdv A outer s H E hr) wt5
end K22
open PySem PySem.W PyProof.Rows
theorem PySem.Challenge.cw_slidehall_k22_layers_walked_holds : PySem.Challenge.rw_slidehall_k22_layers_walked.Holds :=
 K22.early λq loose XP YP d K hd hn hY facts =>
 L2.walk_of (l:=PySem.Challenge.rw_slidehall_k22_layers_walked) (n:=63) (k:=10) (x:="_law_script") (CX:=λ_=>L2.CX0) (sp:=λw=>L2.spLaw (K w.params)) rfl 'z' hd {rfl,'z','z',rfl} hY (λw mg fa h KX G hmg=>K22.all_mk KX G (hn▸hmg) (facts w.params)) (λ_ _ a ns hl _ hS=>{a,ns,rfl,hS,hl,λ_=>rfl}) λ_ _ _ _ _ z=>z
end
end

